import PyProof.Rows.All
import Wide.All
import OpenK.AllK
import Wide.FinOn
import Lean
import PyProof.EqAt
import PyProof.EqKinds
import PyProof.TupleCall
import PyProof.EqLayable
import PyProof.ExcArgsOwn
import PyProof.ExcAttrAll.Exception
import PyProof.RulesAs
import PyProof.ExcBaseAll.ValueError
import PyProof.NsDelKeeps
import KE.KRevSl
import OpenK.KOps
import OpenK.KWalk
import PyProof.TupleIter
import PyProof.ZipIter
import PyProof.ExcClass3
import PyProof.InstStoreFacts
import KE.KLam
import KE.KNestM
import KE.KMinKey
import PyProof.NeKinds
import PySem.Challenge.RW_fewnotes_k55_twins_of_replays
set_option Elab.async false
set_option linter.all false
set_option maxRecDepth 100000
noncomputable section
section
open PySem PySem.Spec PyProof.Rows
theorem Z {α:Sort _} {a:α}:a=a:=rfl
def aae:=@List.length_map
def aaj:=@List.getElem?_eq_getElem
def aak:=@List.getElem?_eq_some_iff
def aam:=@List.getElem?_map
def aan:=@Heap.get?_push_of_some
def aao:=@Heap.get?_push_size
def aap:=@Heap.lt_size
def aaw:=@Nat.le_refl
def aax:=@wpAny_bind
def aay:=@wpAny_pure
def aaB:=@wpS_bind
def aaG:=@wpS_pure
def aaH:=@Array.length_toList
def aaK:=@List.mem_of_getElem?
def aaO:=@decide_eq_true
def aaQ:=@decide_eq_false
def aaT:=@of_decide_eq_true
def aaV:=@Bool.false_ne_true
def aa8:=@List.size_toArray
def abe:=@Option.some.inj
def abf:=@List.length_append
def abj:=@List.getElem?_append_right
def abU:=@List.getElem?_append_left
def abX:=@Nat.ne_of_lt
def ab0:=@Nat.lt_of_lt_of_le
def ab1:=@List.map_append
def acd:=@Int.toNat_natCast
def acg:=@Bool.and_eq_true
def acq:=@List.mem_cons_of_mem
def acG:=@List.mem_append
def acL:=@List.mem_map
def acQ:=@List.mem_singleton
def acS:=@List.take_length
def acT:=@List.length_singleton
def acU:=@List.take_add_one
def acV:=@List.map_map
def acW:=@List.length_set
def acX:=@List.length_take
def acY:=@List.mem_filter
def acZ:=@List.mem_range
def ac0:=@List.filter_cons
def ac1:=@List.length_cons
def ac2:=@List.getElem_of_mem
def ac3:=@Int.eq_ofNat_of_zero_le
def ac4:=@Nat.lt_irrefl
def ac5:=@Nat.le_trans
def ac6:=@Nat.le_of_lt
def ac7:=@List.filter_append
def ac8:=@Option.bind_some
def ac9:=@if_neg
def ac_:=@if_pos
def ac':=@absurd
abbrev zzy:=PySem.W.Frag
abbrev zzx:=Value->Shared->Prop
abbrev zzw:=List (Addr×Obj)
abbrev zzv:=Str->Option Value
abbrev zzu:=Unit->Shared->Prop
abbrev zzt:=List Value
abbrev zzs:=FuncData
abbrev zzr:=Option Nat->SortSt->Prop
end
variable{bmB its its' us:zzt}{C CH CW D Dc L a aC ao aq b bI bV bW cY d f it l1 l2 p sl:PySem.Addr}{cd cdv ct doc oc pm u vl vu:PySem.Value}{P q:PySem.Program}{w:PySem.World}{base h' h0 h1:PySem.Heap}{cn name qual x:PySem.Str}{c e iter tg value:PySem.Expr}{ob oe ox:PySem.Obj}{pO pins:zzw}{s s':PySem.Shared}{ac bc hi i ia ib j k m n na nb nrem t' tn x1:Nat}{ch fp rs tls:List PySem.Addr}{N XN loose own ps:List PySem.Str}{A:PySem.Around}{E Q:zzx}{apos cpos hpos p2 pos pos' tpos:PySem.Pos}{K:zzy}{b0 st:PySem.Stmt}{elts es ifs:List PySem.Expr}{op:PySem.Operator}{body suite:List PySem.Stmt}{lo:PySem.Addr->Prop}{agL an dx od td:Option PySem.Addr}{mA:zzv}{expr few:Bool}{cs gs ns:List Int}{kw:List (PySem.Str×PySem.Value)}{env:PySem.Env}{outer:List PySem.Env}{fd:zzs}{ds:List PySem.PyData}{nm:Option PySem.Str}{SN adz ag4 osl:Array (Option PySem.Value)}{T newId:String}{items:Array PySem.Value}{XP:(PySem.Str->Option PySem.Value)->PySem.Heap->Prop}{YP:PySem.World->PySem.Heap->Prop}{B:Prop}{caps:List Nat}{odo:Option PySem.Obj}{fl:Option PySem.Value}{φ:PySem.Heap->Prop}{pd:Array (Nat×Nat×Nat)}{rk:PySem.Value->Nat}{T':Nat->Prop}
namespace L2
open PySem PySem.Spec PyProof.Rows
abbrev Key:=Sum Int Str
def Eb:Key->Value->Bool
 | .inl k,v=>Value.isInt k v
 | .inr x,v=>Value.isStrOf x v
def aiw(w:World):Key->Int
 | .inl k=>hashInt k
 | .inr x=>hashStr w x
theorem fG:∀{k:Key}{v:Value},Eb k v=true->(∃i t,k=Sum.inl i/\v=Value.int i t)\/(∃x t,k=Sum.inr x/\v=Value.str x t)
 | .inl i,v,h=>by
   obtain⟨t,e⟩:=Value.isInt_shape (k:=i) (v:=v) h;exact .inl ⟨i,t,Z,e⟩
 | .inr x,v,h=>by
   obtain⟨t,e⟩:=Value.isStrOf_shape (x:=x) (v:=v) h;exact .inr ⟨x,t,Z,e⟩
theorem QT(i:Int)(t:Tok):Eb (.inl i) (.int i t)=true:=by simp[Eb,Value.isInt]
theorem QS(x:Str)(t:Tok):Eb (.inr x) (.str x t)=true:=by simp[Eb,Value.isStrOf]
theorem ab5(a b:Int):decide ((Sum.inl a:Key)=Sum.inl b)=(a==b):=by
 by_cases e:a=b
 .subst e;simp
 .have h:¬(Sum.inl a:Key)=Sum.inl b:=λq=>e (Sum.inl.inj q)
  rw[aaQ h];exact(beq_eq_false_iff_ne.mpr e).symm
theorem ab2(a b:Str):decide ((Sum.inr a:Key)=Sum.inr b)=decide (a=b):=by
 by_cases e:a=b
 .subst e;simp
 .have h:¬(Sum.inr a:Key)=Sum.inr b:=λq=>e (Sum.inr.inj q)
  rw[aaQ h,aaQ e]
theorem ab4(a:Int)(b:Str):decide ((Sum.inl a:Key)=Sum.inr b)=false:=aaQ (λq=>nomatch q)
theorem ab3(a:Str)(b:Int):decide ((Sum.inr a:Key)=Sum.inl b)=false:=aaQ (λq=>nomatch q)
def fW(prog:Program)(w:World):PySem.KeyKind prog w Key where
 is:=Eb
 hash:=aiw w
 inj:=λv a b l f=>by
  rcases fG l with ⟨i,t,rfl,rfl⟩|⟨x,t,rfl,rfl⟩
  .rcases fG f with ⟨j,u,rfl,e⟩|⟨y,u,rfl,e⟩
   .injection e with c _;rw[c]
   .exact nomatch e
  .rcases fG f with ⟨j,u,rfl,e⟩|⟨y,u,rfl,e⟩
   .exact nomatch e
   .injection e with c _;rw[c]
 byValue:=λk v h=>by
  rcases fG h with ⟨i,t,rfl,rfl⟩|⟨x,t,rfl,rfl⟩<;>rfl
 pyHash:=λd h=>by
  rcases fG d with ⟨i,t,rfl,rfl⟩|⟨x,t,rfl,rfl⟩
  .exact wpAny_pyHash_int h
  .exact wpAny_pyHash_str h
 eqBool:=λg d h=>by
  rcases fG g with ⟨i,t,rfl,rfl⟩|⟨x,t,rfl,rfl⟩
  .rcases fG d with ⟨j,u,rfl,rfl⟩|⟨y,u,rfl,rfl⟩
   .rw[ab5] at h;exact wpAny_eqBool_int h
   .rw[ab4] at h;exact SeqAt.EqAt.int_str i t y u _ _ _ _ h
  .rcases fG d with ⟨j,u,rfl,rfl⟩|⟨y,u,rfl,rfl⟩
   .rw[ab3] at h;exact SeqAt.EqAt.str_int x t j u _ _ _ _ h
   .rw[ab2] at h;exact wpAny_eqBool_str h
 «strs» :=λk x t v h=>by
  rcases fG h with ⟨i,u,rfl,e⟩|⟨y,u,rfl,e⟩
  .exact nomatch e
  .injection e with c _
   subst c;cases v<;>rfl
theorem Jl(prog:Program)(w:World)(i:Int)(t:Tok):(fW prog w).is (.inl i) (.int i t)=true:=QT i t
theorem Jk(prog:Program)(w:World)(x:Str)(t:Tok):(fW prog w).is (.inr x) (.str x t)=true:=QS x t
inductive V where
 | non|bl (b:Bool)|int (i:Int)|str (x:Str)|Mi (b:Array UInt8)|flt (b:UInt64)|ref (a:Addr)|ty (n:String)
 deriving DecidableEq
def RelV:V->Value->Prop
 | .non,u=>u=Value.none
 | .bl b,u=>u=Value.bool b
 | .int i,u=>∃t,u=Value.int i t
 | .str x,u=>∃t,u=Value.str x t
 | .Mi b,u=>∃t,u=Value.bytes b t
 | .flt b,u=>∃t,u=Value.float b t
 | .ref a,u=>u=Value.ref a
 | .ty n,u=>u=Value.type n
abbrev Vals:List V->List Value->Prop:=Paired RelV
theorem Vals.length{xs:List V}{us:zzt}(r:Vals xs us):xs.length=us.length:=Paired.length r
theorem Vals.get:∀{xs:List V}{us:zzt}{i:Nat}{x:V},Vals xs us->xs[i]?=some x -> ∃u,us[i]?=some u/\RelV x u
 | _,_,_,_,.nil,e=>by simp at e
 | _,_,0,_,.cons r _,e=>by simp at e;subst e;exact⟨_,Z,r⟩
 | _,_,i+1,x,.cons _ t,e=>by
   obtain⟨u,h1,a⟩:=Vals.get (i:=i) (x:=x) t (by simpa using e);exact⟨u,by simpa using h1,a⟩
theorem Vals.set{x:V}{u:Value}(r:RelV x u):∀{xs:List V}{us:zzt}(i:Nat),Vals xs us->Vals (xs.set i x) (us.set i u)
 | _,_,_,.nil=> .nil
 | _,_,0,.cons _ t=> .cons r t
 | _,_,i+1,.cons q t=> .cons q (Vals.set r i t)
theorem Vals.append{xs ys:List V}{ws:zzt}(h:Vals xs us)(s:Vals ys ws):Vals (xs++ys) (us++ws):=by
 induction h with
 | nil=>exact s
 | cons r t a=>exact .cons r a
theorem Vals.take:∀{xs:List V}{us:zzt}(n:Nat),Vals xs us->Vals (xs.take n) (us.take n)
 | _,_,0,_=> .nil
 | _,_,_+1,.nil=> .nil
 | _,_,n+1,.cons r t=> .cons r (Vals.take n t)
theorem Vals.drop:∀{xs:List V}{us:zzt}(n:Nat),Vals xs us->Vals (xs.drop n) (us.drop n)
 | _,_,0,r=>r
 | _,_,_+1,.nil=> .nil
 | _,_,n+1,.cons _ t=>Vals.drop n t
def nP:Option V->Option Value->Prop
 | some v,some u=>RelV v u
 | none,none=>True
 | _,_=>False
def KV{κ:Type}:List (κ×V)->List (κ×Value)->Prop:=Paired λ(p:κ×V) (q:κ×Value)=>p.1=q.1/\RelV p.2 q.2
def kV:Key->V
 | .inl i=> .int i
 | .inr x=> .str x
inductive HO where
 | lst (xs:List V)
 | tup (xs:List V)
 | dK (kvs:List (Key×V))|dT (kvs:List (List Key×V))
 | set (S:Int->Bool) (n:Nat)
 | ins (C dx:Addr) (fs:List (Str×V))
 | own (x:Addr)
 | xd (fs:List (Str×V))
 | met (f x:Addr)
 | rng (lo hi:Int)
 | JD (o:Obj) (u:HO)
 | Z4 (ps:Array Value)
 | ext (φ:Heap->Prop)
abbrev Hp:=Addr->Option HO
def upd(H:Hp)(a:Addr)(o:HO):Hp:=λb=>if b=a then some o else H b
theorem ak{H:Hp}{o:HO}:upd H a o a=some o:=by unfold upd;rw[ac_ rfl]
theorem aF{H:Hp}{o:HO}(h:b≠a):upd H a o b=H b:=by unfold upd;rw[ac9 h]
theorem dD{H:Hp}{o u:HO}(h:H a=some o)(h':H b=some u)(d:o≠u):a≠b:=by
 intro e;subst e;rw[h] at h';exact d (abe h')
theorem aA{H:Hp}{o:HO}(h:H a=some o)(h':H b=none):a≠b:=by
 intro e;subst e;rw[h] at h';cases h'
section
variable(P:Program)(w:World)
def dM(H:Hp)(h:Heap)(a:Addr):HO->Prop
 | .lst xs=>xs.length<=sizeLine /\ ∃(its:zzt) (n:Nat),Vals xs its/\h.get? a=some {cls:= .type "list",data:= .seq its.toArray n}
 | .tup xs=>xs.length<=sizeLine /\ ∃its:List Value,Vals xs its/\IsTup h a its.toArray
 | .dK b=>b.length<=sizeLine/\(a==sysModules)=false /\ ∃vs,KV b vs/\h.DictOf (fW P w) a vs
 | .dT b=>b.length<=sizeLine/\(a==sysModules)=false /\ ∃xs:List (List Key×Addr×Value),
    Paired (λ(p:List Key×V) (q:List Key×Addr×Value)=>p.1=q.1/\H q.2.1=some (.tup (p.1.map kV))/\RelV p.2 q.2.2) b xs /\
    ∃o es e,h.get? a=some o/\o.ExactDict/\o.data=.dict es e/\es.toList=xs.map (entryOfKey (tupleKind (fW P w)))/\(xs.map (·.1)).Nodup
 | .set S n=>h.SetOf (intKind P w) a S n
 | .ins C dx c=>H dx=some (.own a)/\c.length<=1000/\dx≠a/\h.get? a=some (W.instObj C dx) /\
    ∃mA,h.Ns1 dx mA/\(∀f,nP (c.lookup f) (mA f))/\PySem.Within mA (c.map (·.1))
 | .own _=>∃o,h.get? a=some o
 | .xd c=>∃mA,h.Ns1 a mA /\ ∀f,nP (c.lookup f) (mA f)
 | .rng lo hi=>∃t u v,h.get? a=some {cls:= .type "range",data:= .fields #[.int lo t,.int hi u,.int 1 v]}
 | .JD o u=>h.get? a=some o/\dM H h a u
 | .Z4 ps=>h.get? a=some {cls:= .none,data:= .fields ps}
 | .met f x=>h.get? a=some (W.methodObj (.ref f) (.ref x))
 | .ext φ=>φ h/\(∃o,h.get? a=some o) /\ ∀h1 d:Heap,φ h1->(∀o,h1.get? a=some o->d.get? a=some o)->φ d
def sX(H:Hp)(h:Heap):Prop:=∀a o,H a=some o->dM P w H h a o
end
section
variable{H H':Hp}{h:Heap}{o:HO}
theorem dM.lt(x:dM P w H h a o):a<h.objs.size:=by
 cases o with
 | lst c=>obtain⟨_,_,_,_,e⟩:=x;exact aap e
 | tup c=>obtain⟨_,_,_,p⟩:=x;exact p.lt
 | dK b=>obtain⟨_,_,_,_,o,_,_,e,_⟩:=x;exact aap e
 | dT b=>obtain⟨_,_,_,_,o,_,_,e,_⟩:=x;exact aap e
 | set S n=>obtain⟨o,_,_,_,e,_⟩:=x;exact aap e
 | ins C m d=>obtain⟨_,_,_,e,_⟩:=x;exact aap e
 | own y=>obtain⟨_,e⟩:=x;exact aap e
 | xd d=>obtain⟨_,⟨_,_,_,e,_⟩,_⟩:=x;exact aap e
 | rng k l=>obtain⟨_,_,_,e⟩:=x;exact aap e
 | JD j u=>obtain⟨e,_⟩:=x;exact aap e
 | Z4 i=>exact aap (show h.get? a=some _ from x)
 | met f y=>exact aap (show h.get? a=some _ from x)
 | ext g=>obtain⟨_,⟨_,e⟩,_⟩:=x;exact aap e
theorem Paired.ael{α β:Type}{F G:α->β->Prop}:∀{d:List α}{c:List β},Paired F d c->(∀a b,F a b->G a b)->Paired G d c
 :=by
 intro d c h f
 induction h with
 | nil=>exact .nil
 | cons r t e=>exact .cons (f _ _ r) e
theorem dM.stay(x:dM P w H h a o)(k:∀b u,(b=a\/H b=some (.own a))->h.get? b=some u->h'.get? b=some u)(I:∀b,H b=some (.own a)->H' b=some (.own a))(G:∀b xs,H b=some (.tup xs)->H' b=some (.tup xs)):dM P w H' h' a o:=by
 induction o with
 | lst xs=>obtain⟨z,l,n,r,e⟩:=x;exact⟨z,l,n,r,k _ _ (.inl rfl) e⟩
 | tup xs=>obtain⟨z,l,r,g,e,c⟩:=x;exact⟨z,l,r,g,k _ _ (.inl rfl) e,c⟩
 | dK A=>obtain⟨z,y,E,r,g,i,j,e,c⟩:=x;exact⟨z,y,E,r,g,i,j,k _ _ (.inl rfl) e,c⟩
 | dT A=>
   obtain⟨z,y,xs,r,g,i,j,e,c⟩:=x;exact⟨z,y,xs,Paired.ael r λp q z=>⟨z.1,G _ _ z.2.1,z.2.2⟩,g,i,j,k _ _ (.inl rfl) e,c⟩
 | set S n=>obtain⟨g,i,j,t,e,c⟩:=x;exact⟨g,i,j,t,k _ _ (.inl rfl) e,c⟩
 | ins C O J=>
   obtain⟨d,z,ne,e,s,⟨m,i,j,K,c⟩,r⟩:=x;exact⟨I _ d,z,ne,k _ _ (.inl rfl) e,s,⟨m,i,j,k _ _ (.inr d) K,c⟩,r⟩
 | own y=>obtain⟨g,e⟩:=x;exact⟨g,k _ _ (.inl rfl) e⟩
 | xd J=>obtain⟨s,⟨m,i,j,e,c⟩,r⟩:=x;exact⟨s,⟨m,i,j,k _ _ (.inl rfl) e,c⟩,r⟩
 | rng M N=>obtain⟨t,u,v,e⟩:=x;exact⟨t,u,v,k _ _ (.inl rfl) e⟩
 | JD g u F=>obtain⟨e,q⟩:=x;exact⟨k _ _ (.inl rfl) e,F q⟩
 | Z4 D=>
   have e:h.get? a=some {cls:= .none,data:= .fields D}:=x;show h'.get? a=some {cls:= .none,data:= .fields D};exact k a _ (.inl rfl) e
 | met f y=>
   have e:h.get? a=some (W.methodObj (.ref f) (.ref y)):=x;show h'.get? a=some (W.methodObj (.ref f) (.ref y));exact k a _ (.inl rfl) e
 | ext L=>obtain⟨p,⟨o,e⟩,B⟩:=x;exact⟨B _ _ p λo q=>k _ _ (.inl rfl) q,⟨o,k _ _ (.inl rfl) e⟩,B⟩
theorem sX.lt(x:sX P w H h)(e:H a=some o):a<h.objs.size:=(x a o e).lt
theorem sX.fresh(x:sX P w H h)(e:h.objs.size<=a):H a=none:=by
 cases q:H a with
 | none=>rfl
 | some u=>exact ac' (ab0 (x.lt q) e) (ac4 _)
theorem sX.kept(x:sX P w H h)(k:∀b u,h.get? b=some u->h'.get? b=some u):sX P w H h':=λa o e=>
 (x a o e).stay (λb u _ q=>k b u q) (λ_ q=>q) λ_ _ q=>q
theorem sX.laid(x:sX P w H h)(k:∀b u,h.get? b=some u->h'.get? b=some u)(g:h.objs.size<=a)(new:dM P w (upd H a o) h' a o):sX P w (upd H a o) h':=λb u e=>by
 have d:=x.fresh g
 by_cases f:b=a
 .subst f;rw[ak] at e;cases e;exact new
 .rw[aF f] at e
  exact(x b u e).stay (λc v _ q=>k c v q) (λc q=>by rw[aF (aA q d)];exact q) λc i q=>by rw[aF (aA q d)];exact q
end
def Rd(H:Hp)(a:Addr)(u:HO):Prop:=H a=some u \/ ∃o,H a=some (.JD o u)
theorem Rd.ok{H:Hp}{h:Heap}{u:HO}(r:Rd H a u)(x:sX P w H h):dM P w H h a u:=by
 rcases r with r|⟨o,r⟩
 .exact x a u r
 .obtain⟨_,q⟩:=x a _ r
  exact q
def Mut:Option HO->Prop
 | some (.lst _)=>True
 | some (.dK _)=>True
 | some (.dT _)=>True
 | some (.set _ _)=>True
 | some (.ins _ _ _)=>True
 | some (.ext _)=>True
 | _=>False
section
variable{H:Hp}{h:Heap}{x e:Addr}{o':HO}
theorem sX.write(ok:sX P w H h)(g:Mut (H x))(he:e=x\/H e=some (.own x))(k:∀b u,b≠e->h.get? b=some u->h'.get? b=some u)(l:∃u,h'.get? e=some u)(new:dM P w (upd H x o') h' x o'):sX P w (upd H x o') h':=λb u q=>by
 have d:∀c y,H c=some (.own y)->c≠x:=λc y r z=>by subst z;rw[r] at g;exact g
 have m:∀c f,H c=some (.tup f)->c≠x:=λc f r z=>by subst z;rw[r] at g;exact g
 by_cases j:b=x
 .subst j;rw[ak] at q;cases q;exact new
 .rw[aF j] at q
  by_cases a:b=e
  .have n:H b=some (.own x):=by
    rcases he with z|z
    .exact ac' (a.trans z) j
    .rw[a];exact z
   rw[q] at n;cases n;obtain⟨v,o⟩:=l;exact⟨v,by rw[a];exact o⟩
  .refine(ok b u q).stay (λc v i r=>k c v ?_ r) (λc r=>by rw[aF (d c b r)];exact r) λc f r=>by rw[aF (m c f r)];exact r
   rcases i with rfl|i
   .exact a
   .rintro rfl
    rcases he with z|z
    .exact d c b i z
    .rw[i] at z;cases z;exact j rfl
end
structure Un(fs ex:List Addr)(H H':Hp)(h h':Heap):Prop where
 keep:∀b o,h.get? b=some o->H b=none->b∉fs->b∉ex->h'.get? b=some o
 slot:∀b o,h.get? b=some o->H b=none->b∈fs->b∉ex -> ∃sl,h'.get? b=some {o with slots:=sl}
 free:∀b o,h.get? b=some o->H b=none->b∉ex->H' b=none
 there:∀b o,h.get? b=some o->b∉ex -> ∃o',h'.get? b=some o'
 tups:∀b xs,H b=some (.tup xs)->H' b=some (.tup xs)
 vN:∀b o u,H b=some (.JD o u)->H' b=some (.JD o u)
 wQ:∀b ps,H b=some (.Z4 ps) -> ∃more,H' b=some (.Z4 (ps++more))
section
variable{fs fs' ex ex':List Addr}{H H1 H2:Hp}{h h2:Heap}{x e:Addr}{o:HO}
theorem Un.any(u:Un fs ex H H1 h h1)(q:h.get? b=some ob)(n:H b=none)(a:b∉ex):∃sl,h1.get? b=some {ob with slots:=sl}:=by
 by_cases c:b∈fs
 .exact u.slot b ob q n c a
 .exact⟨ob.slots,u.keep b ob q n c a⟩
theorem Un.kept(k:∀b u,h.get? b=some u->h'.get? b=some u):Un fs ex H H h h':=
 ⟨λb a q _ _ _=>k b a q,λb a q _ _ _=>⟨a.slots,k b a q⟩,λ_ _ _ n _=>n,λb a q _=>⟨a,k b a q⟩,λ_ _ q=>q,λ_ _ _ q=>q,λ_ c q=>⟨#[],by rw[q];simp⟩⟩
theorem Un.refl:Un fs ex H H h h:=Un.kept λ_ _ q=>q
theorem Un.laid(k:∀b u,h.get? b=some u->h'.get? b=some u)(e:h.objs.size<=a)(c:H a=none):Un fs ex H (upd H a o) h h' where
 keep:=λb u q _ _ _=>k b u q
 slot:=λb u q _ _ _=>⟨u.slots,k b u q⟩
 free:=λb u q n _=>by rw[aF (abX (ab0 (aap q) e))];exact n
 there:=λb u q _=>⟨u,k b u q⟩
 tups:=λb d q=>by rw[aF (aA q c)];exact q
 vN:=λb u d q=>by rw[aF (aA q c)];exact q
 wQ:=λb f q=>⟨#[],by rw[aF (aA q c),q];simp⟩
theorem Un.write(c:Mut (H x))(he:e=x\/H e=some (.own x))(k:∀b u,b≠e->h.get? b=some u->h'.get? b=some u)(f:∃u,h'.get? e=some u):Un fs ex H (upd H x o) h h':=by
 have g:∀b,H b=none->b≠x:=λb n z=>by subst z;rw[n] at c;exact c
 have i:∀b,H b=none->b≠e:=λb n z=>by
  subst z;rcases he with r|r
  .exact g b n r
  .rw[n] at r;cases r
 have d:∀b u,H b=some u -> ¬Mut (some u)->b≠x:=λb u q nm z=>by subst z;rw[q] at c;exact nm c
 refine⟨λb u q n _ _=>k b u (i b n) q,λb u q n _ _=>⟨u.slots,k b u (i b n) q⟩,λb u q n _=>by rw[aF (g b n)];exact n,λb u q _=>?_,
  λb j q=>by rw[aF (d b _ q λz=>z)];exact q,λb u j q=>by rw[aF (d b _ q λz=>z)];exact q,λb l q=>⟨#[],by rw[aF (d b _ q λz=>z),q];simp⟩⟩
 by_cases a:b=e
 .subst a;exact f
 .exact⟨u,k b u a q⟩
end
def W5(h:Heap)(H:Hp):List Addr:=(List.range h.objs.size).filter λa=>(H a).isSome
def GP(h:Heap)(H:Hp):Heap:=W.hideAll h (W5 h H)
theorem Q5(h:Heap)(H:Hp):(GP h H).objs.size=h.objs.size:=W.hideAll_size _ _
theorem VP{h:Heap}{H:Hp}{o:Obj}(e:h.get? b=some o)(n:H b=none):(GP h H).get? b=some o:=
 W.hideAll_get _ e λa=>by
  have q:(H b).isSome=true:=(acY.mp a).2;rw[n] at q;simp at q
theorem YQ{h:Heap}{H:Hp}{o:Obj}(e:(GP h H).get? b=some o):h.get? b=some o/\H b=none:=by
 have a:h.get? b=some o:=W.of_hideAll (W5 h H) e;refine⟨a,?_⟩;cases q:H b with
 | none=>rfl
 | some x=>
   have c:b∈W5 h H:=acY.mpr ⟨acZ.mpr (aap a),by simp[q]⟩;have z:(GP h H).get? b=none:=W.hideAll_none (W5 h H) c;rw[z] at e;cases e
def ZK(g h:Heap)(L:Addr):List (Addr×Obj):=(List.range h.objs.size).filterMap λa=>if a=L\/(g.get? a).isSome=true then none else (h.get? a).map λo=>(a,o)
def rest(g h:Heap)(L d:Addr):List (Addr×Obj):=(ZK g h L).filter λp=>decide (p.1≠d)
structure Mod(K:zzy)(mg:zzv)(base:Heap):Prop where
 VB:K.In base
 glob:base.Ns mainGlobals mg
 blt:∃mb,base.Ns builtinsNs mb /\ ∀x:Str,x ≠ "__name__" -> mb x=bootBuiltins x
 nolimit:base.NoLimit
structure Cx where
 prog:Program
 w:World
 K:zzy
 mg:Str->Option Value
 base:Heap
 A:Around
 N:List Str
 s₀:Shared
 H₀:Hp
 env:Env
 outer:List Env
 stack:List Env
 ex:List Addr
 fn:Str->Bool
 calm:Bool
 pn:List (Addr×Obj)
 xe:Value->Shared->Prop
def frs(l:List Env):List Addr:=l.filterMap (·.frame)
abbrev Cx.fs(X:Cx):List Addr:=frs X.outer
def Vis(a:Scope)(x:Str):Prop:=a.names.lookup x=some .local\/a.names.lookup x=some .cell\/a.names.lookup x=some .free
def Loc(a:Scope)(x:Str):Prop:=a.names.lookup x=some .local\/a.names.lookup x=some .cell
def Look(env:Env)(h:Heap)(m:zzv)(x:Str)(u:Value):Prop:=
 (env.kindOf x=some .local/\m x=some u)\/((env.kindOf x=some .cell\/env.kindOf x=some .free) /\ ∃c,env.cells.lookup x=some c/\h.IsCell c (some u))
structure Cx.Ok(X:Cx):Prop where
 mod:Mod X.K X.mg X.base
 kind:X.env.scope.kind=.function
 glob:X.env.globals=mainGlobals
 blt:X.env.builtins=builtinsNs
 above:X.s₀.heap.objs.size<=X.env.locals
 inj:∀x y c,X.env.cells.lookup x=some c->X.env.cells.lookup y=some c->x=y
 has:∀x,(X.env.kindOf x=some .cell\/X.env.kindOf x=some .free) -> ∃c,X.env.cells.lookup x=some c
 cab:∀x c,X.fn x=true->X.env.cells.lookup x=some c->X.s₀.heap.objs.size<=c
 hd:X.calm=true->X.A.handled=none
 frames:X.A.frames=some X.stack
 stk:X.stack=X.outer\/(X.stack=X.env::X.outer/\X.env.frame=some X.env.locals)
 exf:∀b∈X.ex,b≠X.env.locals /\ ∀x c,X.env.cells.lookup x=some c->c≠b
 bs:∀b o,X.base.get? b=some o->X.s₀.heap.get? b=some o/\X.H₀ b=none
 Mj:X.base.objs.size<=X.s₀.heap.objs.size
 Gs:∀b o,X.base.get? b=some o->b∉X.ex
 JG:∀b∈X.ex,b∉X.fs
 pW:X.s₀.heap.FunFrames X.base X.outer
 RN:∀b∈X.fs,X.H₀ b=none
structure Inv(X:Cx)(pins:zzw)(σ:List (Option V))(H:Hp)(s:Shared):Prop where
 ok:X.Ok
 os:s.os=X.s₀.os
 bare:AllBare s.gens
 base:Un X.fs X.ex X.H₀ H X.s₀.heap s.heap
 loc:∃m,s.heap.Ns X.env.locals m /\ ∀(i:Nat)(x:Str)(v:V),X.N[i]?=some x->σ[i]?=some (some v)->Vis X.env.scope x -> ∃u,RelV v u/\Look X.env s.heap m x u
 cell:∀x c,X.env.cells.lookup x=some c -> ∃v,s.heap.IsCell c v
 free:H X.env.locals=none
 jr:∀x c,X.env.cells.lookup x=some c->H c=none
 pin:∀p∈X.pn++pins,s.heap.get? p.1=some p.2/\H p.1=none/\p.1≠X.env.locals/\p.1∉X.fs /\ ∀v,p.2.data ≠ .cell v
 hok:sX X.prog X.w H s.heap
 len:σ.length=X.N.length
section
variable{X:Cx}{σ:List (Option V)}{H H':Hp}
theorem Cx.Ok.aif(ok:X.Ok){o:Obj}(e:X.base.get? b=some o):b∉X.fs:=λa=>by
 have:=(ok.pW.mem a).1;rw[e] at this;cases this
theorem Inv.bs(I:Inv X pins σ H s):∀b o,X.base.get? b=some o->s.heap.get? b=some o/\H b=none:=λb o e=>
 ⟨I.base.keep b o (I.ok.bs b o e).1 (I.ok.bs b o e).2 (I.ok.aif e) (I.ok.Gs b o e),I.base.free b o (I.ok.bs b o e).1 (I.ok.bs b o e).2 (I.ok.Gs b o e)⟩
theorem Inv.bk(I:Inv X pins σ H s):∀b o,X.base.get? b=some o->s.heap.get? b=some o:=λb o e=>(I.bs b o e).1
theorem Inv.mod(I:Inv X pins σ H s):Mod X.K X.mg X.base:=I.ok.mod
theorem Inv.oH(I:Inv X pins σ H s):X.K.In s.heap:=I.ok.mod.VB.keeps I.bk
theorem Inv.fr(I:Inv X pins σ H s):∃m,Fr X.base X.env.locals s.heap m:=
 let ⟨m,a,_⟩:=I.loc
 ⟨m,a,I.bk,ac5 I.ok.Mj I.ok.above⟩
theorem Inv.lt(I:Inv X pins σ H s):X.env.locals<s.heap.objs.size:=let ⟨_,a,_⟩:=I.loc;a.lt
theorem Inv.sz(I:Inv X pins σ H s):X.s₀.heap.objs.size<=s.heap.objs.size:=ac5 I.ok.above (ac6 I.lt)
theorem Inv.aie(I:Inv X pins σ H s)(h:s.heap.objs.size<=a):a∉X.fs:=λc=>by
 obtain⟨_,o,b,_⟩:=I.ok.pW.mem c;exact ac' (ab0 (aap b) (ac5 I.sz h)) (ac4 _)
theorem Inv.cne(I:Inv X pins σ H s):∀x c,X.env.cells.lookup x=some c->c≠X.env.locals:=λx c e z=>by
 obtain⟨v,o,d,f⟩:=I.cell x c e;obtain⟨m,⟨g,h,i,a,b,_⟩,_⟩:=I.loc;rw[z,a] at d;cases d;rw[b] at f;cases f
theorem Inv.pW(I:Inv X pins σ H s):s.heap.FunFrames X.base X.outer:=by
 have all:∀(l:List Env),(∀b∈frs l,b∈X.fs)->X.s₀.heap.FunFrames X.base l->s.heap.FunFrames X.base l:=by
  intro l
  induction l with
  | nil=>intro _ _;trivial
  | cons env r g=>
    intro f k;obtain⟨m,⟨L,o,a,j,i,n⟩,h⟩:=k;have d:L∈X.fs:=f L (by unfold frs;rw[List.filterMap_cons,a];exact List.mem_cons_self);obtain⟨p,e⟩:=I.base.slot L o i (I.ok.RN L d) d λz=>I.ok.JG L z d;exact⟨m,⟨L,_,a,j,e,n⟩,g (λb c=>f b (by unfold frs;rw[List.filterMap_cons,a];exact acq _ c)) h⟩
 exact all X.outer (λ_ c=>c) I.ok.pW
theorem Inv.stack(I:Inv X pins σ H s):s.heap.FunFrames X.base X.stack:=by
 rcases I.ok.stk with e|⟨e,b⟩
 .rw[e];exact I.pW
 .rw[e]
  obtain⟨m,a,_⟩:=I.loc;refine .cons (by rw[I.ok.kind];decide) b a ?_ I.pW;exact Heap.get?_none_of_le (ac5 I.ok.Mj I.ok.above)
theorem Inv.Ac(I:Inv X pins σ H s):∀b∈frs X.stack,b∈X.env.locals::X.fs:=λb a=>by
 rcases I.ok.stk with e|⟨e,c⟩
 .rw[e] at a;exact acq _ a
 .rw[e] at a
  unfold frs at a;rw[List.filterMap_cons,c] at a;exact a
theorem Inv.Ft(I:Inv X pins σ H s):∀b∈frs X.stack,H b=none:=λb a=>by
 rcases List.mem_cons.mp (I.Ac b a) with e|a
 .rw[e];exact I.free
 .obtain⟨_,o,c,_⟩:=I.ok.pW.mem a
  exact I.base.free b o c (I.ok.RN b a) λz=>I.ok.JG b z a
theorem Inv.step{g':Array GenState}{d':Drawn}(I:Inv X pins σ H s)(g:∀b∈ch,(b∈X.ex\/X.s₀.heap.objs.size<=b)/\b≠X.env.locals/\(∀x c,X.env.cells.lookup x=some c->c≠b) /\ ∀p∈X.pn++pins,p.1≠b)(keep:∀b o,b≠X.env.locals->b∉X.fs->b∉ch->s.heap.get? b=some o->H b=none->h'.get? b=some o)(slot:∀b o,b≠X.env.locals->b∈X.fs->b∉ch->s.heap.get? b=some o->H b=none -> ∃sl,h'.get? b=some {o with slots:=sl})(free:∀b o,b∉ch->s.heap.get? b=some o->H b=none->H' b=none)(there:∀b o,b∉ch->s.heap.get? b=some o -> ∃y,h'.get? b=some y)(tups:∀b xs,H b=some (.tup xs)->H' b=some (.tup xs))(vN:∀b o u,H b=some (.JD o u)->H' b=some (.JD o u))(wQ:∀b ps,H b=some (.Z4 ps) -> ∃more,H' b=some (.Z4 (ps++more)))(ns:∀m,s.heap.Ns X.env.locals m->h'.Ns X.env.locals m)(D:sX X.prog X.w H' h')(O:AllBare g'):
 Inv X pins σ H' {s with heap:=h',gens:=g',drawn:=d',toks:=t'}:=by
 have A:∀b o,X.s₀.heap.get? b=some o->b≠X.env.locals:=λb o e=>abX (ab0 (aap e) I.ok.above)
 have h:∀b o,X.s₀.heap.get? b=some o->b∉X.ex->b∉ch:=λb o e a t=>by
  rcases(g b t).1 with z|z
  .exact a z
  .exact ac' (ab0 (aap e) z) (ac4 _)
 have cellK:∀x c,X.env.cells.lookup x=some c -> ∀v,s.heap.IsCell c v->h'.IsCell c v:=λx c e v ⟨o,w,E⟩=>by
  have f:c∉ch:=λz=>(g c z).2.2.1 x c e rfl
  by_cases J:c∈X.fs
  .obtain⟨sl,q⟩:=slot c o (I.cne x c e) J f w (I.jr x c e)
   exact⟨_,q,E⟩
  .exact⟨o,keep c o (I.cne x c e) J f w (I.jr x c e),E⟩
 refine⟨I.ok,I.os,O,⟨λb o e n t a=>?_,λb o e n t a=>?_,λb o e n a=>?_,λb o e a=>?_,λb xs e=>tups b xs (I.base.tups b xs e),λb o xs e=>vN b o xs (I.base.vN b o xs e),λb ps e=>?_⟩,?_,λx c e=>?_,?_,λx c e=>?_,λp G=>?_,D,I.len⟩
 .exact keep b o (A b o e) t (h b o e a) (I.base.keep b o e n t a) (I.base.free b o e n a)
 .obtain⟨sl,j⟩:=I.base.slot b o e n t a
  obtain⟨C,B⟩:=slot b _ (A b o e) t (h b o e a) j (I.base.free b o e n a);exact⟨C,B⟩
 .obtain⟨y,j⟩:=I.base.there b o e a
  exact free b y (h b o e a) j (I.base.free b o e n a)
 .obtain⟨y,j⟩:=I.base.there b o e a
  exact there b y (h b o e a) j
 .obtain⟨L,j⟩:=I.base.wQ b ps e
  obtain⟨K,B⟩:=wQ b _ j;exact⟨L++K,by rw[B,Array.append_assoc]⟩
 .obtain⟨m,M,N⟩:=I.loc
  refine⟨m,ns m M,λi x v j B P=>?_⟩;obtain⟨u,r,l⟩:=N i x v j B P;refine⟨u,r,?_⟩;rcases l with l|⟨k,c,e,z⟩
  .exact .inl l
  .exact .inr ⟨k,c,e,cellK x c e _ z⟩
 .obtain⟨v,z⟩:=I.cell x c e
  exact⟨v,cellK x c e v z⟩
 .obtain⟨m,⟨o,_,_,w,_⟩,_⟩:=I.loc
  exact free _ o (λz=>(g _ z).2.1 rfl) w I.free
 .obtain⟨v,o,w,E⟩:=I.cell x c e
  exact free c o (λz=>(g c z).2.2.1 x c e rfl) w (I.jr x c e)
 .obtain⟨e,n,ne,F,d⟩:=I.pin p G
  have f:p.1∉ch:=λz=>(g p.1 z).2.2.2 p G rfl;exact⟨keep p.1 p.2 ne F f e n,free p.1 p.2 f e n,ne,F,d⟩
theorem Inv.un(I:Inv X pins σ H s)(u:Un X.fs [] H H' s.heap h')(c:sX X.prog X.w H' h'):Inv X pins σ H' {s with heap:=h',toks:=t'}:=by
 obtain⟨m,⟨o,t,v,h,r⟩,_⟩:=id I.loc;obtain⟨l,k⟩:=u.any h I.free (by simp)
 exact I.step (g':=s.gens) (d':=s.drawn) (ch:=[]) (λ_ z=>nomatch z) (λb o _ d _ e n=>u.keep b o e n d (by simp)) (λb o _ d _ e n=>u.slot b o e n d (by simp)) (λb o _ e n=>u.free b o e n (by simp)) (λb o _ e=>u.there b o e (by simp)) u.tups u.vN u.wQ (λq j=>by
  obtain⟨p,f,g,a,i⟩:=j;rw[h] at a;cases a;exact⟨_,f,g,k,i⟩) c I.bare
theorem Inv.call{g':Array GenState}{d':Drawn}(I:Inv X pins σ H s)(u:Un (frs X.stack) ch H H' s.heap h')(g:sX X.prog X.w H' h')(t:AllBare g')(f:∀b∈ch,(b∈X.ex\/X.s₀.heap.objs.size<=b)/\b≠X.env.locals/\(∀x c,X.env.cells.lookup x=some c->c≠b) /\ ∀p∈X.pn++pins,p.1≠b):
 Inv X pins σ H' {s with heap:=h',gens:=g',drawn:=d',toks:=t'}:=by
 obtain⟨m,⟨o,B,C,k,r⟩,_⟩:=id I.loc;obtain⟨w,h⟩:=u.any k I.free λz=>(f _ z).2.1 rfl
 exact I.step (ch:=ch) f (λb o h v a e n=>u.keep b o e n (λz=>(List.mem_cons.mp (I.Ac b z)).elim h v) a) (λb o _ _ a e n=>u.any e n a) (λb o a e n=>u.free b o e n a) (λb o a e=>u.there b o e a) u.tups u.vN u.wQ (λA q=>by
  obtain⟨y,i,j,d,l⟩:=q;rw[k] at d;cases d;exact⟨_,i,j,h,l⟩) g t
theorem Inv.turned(I:Inv X pins σ H s)(k:∀b o,b≠it->s.heap.get? b=some o->h'.get? b=some o)(h:H it=none)(f:it≠X.env.locals)(w:it∈X.ex\/X.s₀.heap.objs.size<=it)(t:∀x c,X.env.cells.lookup x=some c->c≠it)(l:∀p∈X.pn++pins,p.1≠it):Inv X pins σ H {s with heap:=h',toks:=t'}:=by
 have d:∀b u,H b=some u->b≠it:=λb u e z=>by rw[z,h] at e;cases e
 refine I.step (g':=s.gens) (d':=s.drawn) (ch:=[it]) (λb j=>?_) (λb o _ _ a e _=>k b o (λz=>a (by simp[z])) e) (λb o _ _ a e _=>⟨o.slots,k b o (λz=>a (by simp[z])) e⟩) (λ_ _ _ _ n=>n)
  (λb o a e=>⟨o,k b o (λz=>a (by simp[z])) e⟩) (λ_ _ e=>e) (λ_ _ _ e=>e) (λb B e=>⟨#[],by rw[e];simp⟩) (λm i=>?_) (λb u e=>?_) I.bare
 .have e:b=it:=by simpa using j
  subst e;exact⟨w,f,t,l⟩
 .obtain⟨o,y,A,g,r⟩:=i
  exact⟨o,y,A,k _ o (Ne.symm f) g,r⟩
 .refine(I.hok b u e).stay (λc v a q=>k c v ?_ q) (λ_ q=>q) λ_ _ q=>q
  rcases a with z|z
  .rw[z];exact d b u e
  .exact d c _ z
theorem Inv.tok(I:Inv X pins σ H s)(t:Nat):Inv X pins σ H {s with toks:=t}:=I.un (h':=s.heap) (t':=t) Un.refl I.hok
theorem Inv.kept{t':Nat}(I:Inv X pins σ H s)(k:∀b u,s.heap.get? b=some u->h'.get? b=some u):Inv X pins σ H {s with heap:=h',toks:=t'}:=I.un (Un.kept k) (I.hok.kept k)
theorem Inv.laid{a:Addr}{o:HO}{t':Nat}(I:Inv X pins σ H s)(k:∀b u,s.heap.get? b=some u->h'.get? b=some u)(c:s.heap.objs.size<=a)(new:dM X.prog X.w (upd H a o) h' a o):
 Inv X pins σ (upd H a o) {s with heap:=h',toks:=t'}:=I.un (Un.laid k c (I.hok.fresh c)) (I.hok.laid k c new)
theorem Inv.write{x e:Addr}{o:HO}{t':Nat}(I:Inv X pins σ H s)(c:Mut (H x))(he:e=x\/H e=some (.own x))(k:∀b u,b≠e->s.heap.get? b=some u->h'.get? b=some u)(a:∃u,h'.get? e=some u)(new:dM X.prog X.w (upd H x o) h' x o):Inv X pins σ (upd H x o) {s with heap:=h',toks:=t'}:=I.un (Un.write c he k a) (I.hok.write c he k a new)
theorem Inv.Oc(I:Inv X pins σ H s)(h:∀p∈pO,s.heap.get? p.1=some p.2/\H p.1=none/\p.1≠X.env.locals/\p.1∉X.fs /\ ∀v,p.2.data ≠ .cell v):Inv X pO σ H s:=
 ⟨I.ok,I.os,I.bare,I.base,I.loc,I.cell,I.free,I.jr,λp a=>(acG.mp a).elim (λz=>I.pin p (List.mem_append_left _ z)) (h p),I.hok,I.len⟩
theorem Bu(c:N.Nodup)(a:N[i]?=some x)(b:N[j]?=some x):i=j:=by
 obtain⟨g,e⟩:=aak.mp a;obtain⟨f,d⟩:=aak.mp b;exact(List.getElem_inj c).mp (e.trans d.symm)
theorem Dv{M:Model}{v:V}{Q:zzu}(I:Inv X pins σ H s)(hN:X.N.Nodup)(hi:X.N[i]?=some x)(t:Loc X.env.scope x)(r:RelV v u)(h:∀s',Inv X pins (σ.set i (some v)) H s'->(∃a,Heap.SameBut a s.heap s'.heap/\(a=X.env.locals\/X.env.cells.lookup x=some a))->Q () s')(hf:X.fn x=true\/X.env.scope.names.lookup x=some .local:=by first |exact .inl rfl|exact .inr rfl|assumption):wpAny M A (storeName X.env x u) Q E s:=by
 obtain⟨m,hn,hl⟩:=id I.loc;have N:(X.env.scope.kind == .class||(X.env.scope.kind == .module&&X.env.locals != X.env.globals))=false:=by rw[I.ok.kind];rfl
 have R:i<σ.length:=by rw[I.len];exact(aak.mp hi).1
 have J:=I.cne
 have tracked:∀{a:Addr}{K:Heap},(∃o,s.heap.get? a=some o/\H a=none)->Heap.SameBut a s.heap K->sX X.prog X.w H K:=fun {a K} ha f b ob e=>by
  obtain⟨_,_,w⟩:=ha;refine(I.hok b ob e).stay (λc S l q=>(f.2 c ?_).trans q) (λ_ q=>q) λ_ _ q=>q;rintro rfl;rcases l with rfl|l
  .rw[w] at e;cases e
  .rw[w] at l;cases l
 rcases t with C|C
 .refine wpAny_storeName_local C hn (λK a1 f=>?_) N
  obtain⟨oL,_,_,a0,_⟩:=id hn;refine h _ ⟨I.ok,I.os,I.bare,⟨λb o e n G t=>?_,λb o e n G t=>?_,I.base.free,λb o e t=>?_,I.base.tups,I.base.vN,I.base.wQ⟩,⟨_,a1,λj y U g B e3=>?_⟩,λy c e=>?_,I.free,I.jr,λp hp=>?_,tracked ⟨oL,a0,I.free⟩ f,by simpa using I.len⟩ ⟨_,f,.inl rfl⟩
  .exact(f.2 b (abX (ab0 (aap e) I.ok.above))).trans (I.base.keep b o e n G t)
  .obtain⟨Y,g⟩:=I.base.slot b o e n G t
   exact⟨Y,(f.2 b (abX (ab0 (aap e) I.ok.above))).trans g⟩
  .obtain⟨o',g⟩:=I.base.there b o e t
   exact⟨o',(f.2 b (abX (ab0 (aap e) I.ok.above))).trans g⟩
  .by_cases D:j=i
   .subst D
    rw[hi] at g;cases g;rw[List.getElem?_set_self R] at B;cases B;exact⟨u,r,.inl ⟨C,by simp⟩⟩
   .rw[List.getElem?_set_ne (Ne.symm D)] at B
    obtain⟨W,r',q⟩:=hl j y U g B e3;refine⟨W,r',?_⟩;rcases q with ⟨k,e⟩|⟨k,c,e,z⟩
    .refine .inl ⟨k,?_⟩
     have:y≠x:=λe=>D (Bu hN g (e▸hi));simp[this,e]
    .exact .inr ⟨k,c,e,z.sameBut f (J y c e)⟩
  .obtain⟨S,z⟩:=I.cell y c e
   exact⟨S,z.sameBut f (J y c e)⟩
  .obtain⟨e,n,ne,nf,d⟩:=I.pin p hp
   exact⟨(f.2 p.1 ne).trans e,n,ne,nf,d⟩
 .have F:X.fn x=true:=by
   rcases hf with z|z
   .exact z
   .rw[z] at C;cases C
  obtain⟨c,l⟩:=I.ok.has x (.inl C);obtain⟨S,z⟩:=I.cell x c l;refine wpAny_storeName_cell I.ok.kind C l z (λK P f=>?_);obtain⟨oc,L,a2⟩:=id z;refine h {s with heap:=K} ⟨I.ok,I.os,I.bare,⟨λb o e n G t=>?_,λb o e n G t=>?_,I.base.free,λb o e t=>?_,I.base.tups,I.base.vN,I.base.wQ⟩,⟨m,hn.sameBut f (Ne.symm (J x c l)),λj y U g B e3=>?_⟩,λy T e=>?_,I.free,I.jr,λp hp=>?_,tracked ⟨oc,L,I.jr x c l⟩ f,by simpa using I.len⟩ ⟨c,f,.inr l⟩
  .exact(f.2 b (abX (ab0 (aap e) (I.ok.cab x c F l)))).trans (I.base.keep b o e n G t)
  .obtain⟨Y,g⟩:=I.base.slot b o e n G t
   exact⟨Y,(f.2 b (abX (ab0 (aap e) (I.ok.cab x c F l)))).trans g⟩
  .obtain⟨o',g⟩:=I.base.there b o e t
   exact⟨o',(f.2 b (abX (ab0 (aap e) (I.ok.cab x c F l)))).trans g⟩
  .by_cases D:j=i
   .subst D
    rw[hi] at g;cases g;rw[List.getElem?_set_self R] at B;cases B;exact⟨u,r,.inr ⟨.inl C,c,l,P⟩⟩
   .rw[List.getElem?_set_ne (Ne.symm D)] at B
    obtain⟨W,r',q⟩:=hl j y U g B e3;refine⟨W,r',?_⟩;rcases q with q|⟨k,T,e,z'⟩
    .exact .inl q
    .refine .inr ⟨k,T,e,z'.sameBut f ?_⟩
     rintro rfl;exact D (Bu hN g (I.ok.inj _ _ _ e l▸hi))
  .by_cases O:T=c
   .subst O;exact⟨_,P⟩
   .obtain⟨w2,z2⟩:=I.cell y T e
    exact⟨w2,z2.sameBut f O⟩
  .obtain⟨e,n,ne,nf,d⟩:=I.pin p hp
   refine⟨(f.2 p.1 ?_).trans e,n,ne,nf,d⟩;intro q;rw[q,L] at e;have q':oc=p.2:=abe e;exact d S (by rw[←q'];exact a2)
theorem uP{M:Model}{v:V}{Q:zzu}(I:Inv X pins σ H s)(c:X.N.Nodup)(hi:X.N[i]?=some x)(a:Loc X.env.scope x)(r:RelV v u)(h:∀s',Inv X pins (σ.set i (some v)) H s'->Q () s')(b:X.fn x=true\/X.env.scope.names.lookup x=some .local:=by first |exact .inl rfl|exact .inr rfl|assumption):wpAny M A (storeName X.env x u) Q E s:=
 Dv I c hi a r (λs' d _=>h s' d) b
theorem Inv.call'(I:Inv X pins σ H s)(g:s'.os=s.os)(u:Un (frs X.stack) ch H H' s.heap s'.heap)(a:sX X.prog X.w H' s'.heap)(h:AllBare s'.gens)(d:∀b∈ch,(b∈X.ex\/X.s₀.heap.objs.size<=b)/\b≠X.env.locals/\(∀x c,X.env.cells.lookup x=some c->c≠b) /\ ∀p∈X.pn++pins,p.1≠b):Inv X pins σ H' s':=by
 obtain⟨i,g',d',t',f⟩:=s';have e:f=s.os:=g;subst e;exact I.call (g':=g') (t':=t') (d':=d') u a h d
end
abbrev XK:=Value->Option Addr->Hp->Prop
abbrev St:=List (Option V)
abbrev VK:=V->Hp->Prop
abbrev TE:=St->Hp->VK->Prop
abbrev TT:=St->Hp->(Bool->Hp->Prop)->Prop
abbrev TA:=St->Hp->(List V->Hp->Prop)->Prop
structure Ends where
 nx:St->Hp->Prop
 rt:VK
 bk:St->Hp->Prop:=λ_ _=>False
 ct:St->Hp->Prop:=λ_ _=>False
abbrev TS:=Ends->St->Hp->Prop
end L2
variable{qY vs xs ys:List L2.V}{H H':L2.Hp}{X:L2.Cx}{σ σ0:L2.St}{cv v y:L2.V}{ta te tk tl to tv:L2.TE}{tb th:L2.TS}{tc:L2.TT}{Xq rd:L2.V->L2.V->L2.Hp->L2.VK->Prop}{ks:List L2.Key}{gV:List L2.V->List L2.V->List L2.V}{kvs:List (List L2.Key×L2.V)}{G:PySem.Addr->L2.Hp->Prop}{x5:Option L2.V}
namespace L2
open PySem PySem.Spec PyProof.Rows
def EP(X:Cx)(a:zzw)(b:St)(Q:VK)(u:Value)(s':Shared):Prop:=∃v H',Inv X a b H' s'/\RelV v u/\Q v H'
def TP(X:Cx)(a:zzw)(c:St)(Q:Bool->Hp->Prop)(b:Bool)(s':Shared):Prop:=∃H',Inv X a c H' s'/\Q b H'
def AP(X:Cx)(a:zzw)(b:St)(Q:List V->Hp->Prop)(us:zzt)(s':Shared):Prop:=∃vs H',Inv X a b H' s'/\Vals vs us/\Q vs H'
def SP(X:Cx)(b:zzw)(D:Ends)(f:Flow)(s':Shared):Prop:=
 match f with
 | .next=>∃a H',Inv X b a H' s'/\D.nx a H'
 | .brk=>∃a H',Inv X b a H' s'/\D.bk a H'
 | .cont=>∃a H',Inv X b a H' s'/\D.ct a H'
 | .ret u=>∃v a H',Inv X b a H' s'/\RelV v u/\D.rt v H'
def PE(X:Cx)(e:Expr)(t:TE):Prop:=
 ∀(pins:zzw)(s:Shared)(σ:St)(H:Hp)(Q:VK),Inv X pins σ H s->t σ H Q->wpAny (model X.prog X.w) X.A (eval e X.env) (EP X pins σ Q) X.xe s
def PT(X:Cx)(e:Expr)(t:TT):Prop:=
 ∀(pins:zzw)(s:Shared)(σ:St)(H:Hp)(Q:Bool->Hp->Prop),Inv X pins σ H s->t σ H Q->wpAny (model X.prog X.w) X.A (isTrue e X.env (eval e X.env)) (TP X pins σ Q) X.xe s
def PW(X:Cx)(e:Expr)(t:TT):Prop:=
 ∀(whole:Sem Value)(pins:zzw)(s:Shared)(σ:St)(H:Hp)(Q:Bool->Hp->Prop),Inv X pins σ H s->t σ H Q->wpAny (model X.prog X.w) X.A (isTrue e X.env whole) (TP X pins σ Q) X.xe s
theorem PW.pt{t:TT}(h:PW X e t):PT X e t:=h _
def PA(X:Cx)(a:List Expr)(t:TA):Prop:=
 ∀(pos:Pos)(pins:zzw)(s:Shared)(σ:St)(H:Hp)(Q:List V->Hp->Prop),Inv X pins σ H s->t σ H Q->wpAny (model X.prog X.w) X.A (spliced (backTo pos (starEach a X.env))) (AP X pins σ Q) X.xe s
def PS(X:Cx)(st:Stmt)(t:TS):Prop:=
 ∀(pins:zzw)(s:Shared)(σ:St)(H:Hp)(D:Ends),Inv X pins σ H s->t D σ H->wpAny (model X.prog X.w) X.A (exec st X.env) (SP X pins D) X.xe s
def Kf(X:Cx)(st:List Stmt)(t:TS):Prop:=
 ∀(pins:zzw)(s:Shared)(σ:St)(H:Hp)(D:Ends),Inv X pins σ H s->t D σ H->wpAny (model X.prog X.w) X.A (execs st X.env) (SP X pins D) X.xe s
theorem dG{α:Type}{t:Sem α}{Q b:α->Shared->Prop}{M:Model}(h:wpAny M A t Q E s)(c:∀a s,Q a s->b a s):wpAny M A t b E s:=wpAny_mono h c λ_ _ x=>x
section
inductive eG(i:Nat)(σ:St)(H:Hp)(Q:VK):Prop|m:∀v,σ[i]?=some (some v)->Q v H->eG i σ H Q
def tC(v:V):TE:=λ_ H Q=>Q v H
theorem abt(w:X.N[i]?=some x)(o:Vis X.env.scope x)(g:(x==("__debug__" :Str))=false:=by decide)(j:(x==("__classdict__" :Str))=false:=by decide):PE X (.Name x pos) (eG i):=by
 intro f s n H Q I h;obtain⟨v,e,h⟩:=h;obtain⟨m,p,t⟩:=I.loc;obtain⟨u,r,l⟩:=t i x v w e o;have d:EP X f n Q u s:=⟨v,H,I,r,h⟩;rcases l with ⟨b,q⟩|⟨b,c,k,a⟩
 .exact wpAny_Name (wpAny_loadName_local I.ok.kind b p q d) g
 .rcases b with b|b
  .exact wpAny_Name (wpAny_loadName_cell I.ok.kind b k a d) g
  .exact wpAny_Name (wpAny_loadName_free I.ok.kind b k a d j) g
theorem aG{i j pos}:PE X (.Constant (.int i) j pos) (tC (.int i)):=λ_ _ _ H _ I h=>wpAny_Constant_int ⟨.int i,H,I.tok _,⟨_,Z⟩,h⟩
theorem mR{b j pos}:PE X (.Constant (.bool b) j pos) (tC (.bl b)):=λ_ _ _ H _ I h=>Constant_bool ⟨.bl b,H,I,Z,h⟩
theorem j8{j pos}:PE X (.Constant .none j pos) (tC .non):=λ_ _ _ H _ I h=>Constant_none ⟨.non,H,I,Z,h⟩
theorem bT{x j pos}:PE X (.Constant (.str x) j pos) (tC (.str x)):=λ_ _ _ H _ I h=>Calls.Constant_str ⟨.str x,H,I.tok _,⟨_,Z⟩,h⟩
def Gl(X:Cx)(x:Str):Prop:=X.env.kindOf x=some .globalImplicit
theorem pC(I:Inv X pins σ H s)(b:Gl X x)(a:X.mg x=some u)(h:Q u s)(c:(x==("__debug__" :Str))=false:=by decide):wpAny (model X.prog X.w) X.A (eval (.Name x pos) X.env) Q E s:=
 Calls.Name_function_global I.ok.kind b (Calls.loadGlobal_global (by rw[I.ok.glob];exact I.mod.glob.keeps I.bk) a h) c
theorem pF(I:Inv X pins σ H s)(d:Gl X x)(c:X.mg x=none)(a:bootBuiltins x=some u)(h:Q u s)(b:x ≠ "__name__" :=by decide)(e:(x==("__debug__" :Str))=false:=by decide):wpAny (model X.prog X.w) X.A (eval (.Name x pos) X.env) Q E s:=by
 obtain⟨i,g,f⟩:=I.mod.blt;exact Calls.Name_function_global I.ok.kind d (Calls.loadGlobal_builtin (by rw[I.ok.glob];exact I.mod.glob.keeps I.bk) c (by rw[I.ok.blt];exact g.keeps I.bk) ((f x b).trans a) h) e
theorem jN(b:Gl X x)(a:X.mg x=some u)(r:RelV v u)(c:(x==("__debug__" :Str))=false:=by decide):PE X (.Name x pos) (tC v):=
 λ_ _ _ H _ I h=>pC I b a ⟨v,H,I,r,h⟩ c
theorem fM(d:Gl X x)(c:X.mg x=none)(a:bootBuiltins x=some u)(r:RelV v u)(b:x ≠ "__name__" :=by decide)(e:(x==("__debug__" :Str))=false:=by decide):PE X (.Name x pos) (tC v):=
 λ_ _ _ H _ I h=>pF I d c a ⟨v,H,I,r,h⟩ b e
variable{a b:Expr}{tb:TE}
inductive adN(Q:Bool->Hp->Prop)(x:V)(H1:Hp):Prop|m:∀c,x=.bl c->Q c H1->adN Q x H1
def tB(t:TE):TT:=λσ H Q=>t σ H λx H1=>adN Q x H1
theorem dH{t:TE}(h:PE X e t)(he:∀whole,isTrue e X.env whole=(do let v ←whole;standAt e.pos;holding [v] (truthy v)):=by intro _;rfl):PT X e (tB t):=by
 intro a s b H Q I hw;refine isTrue_plain (dG (h a s b H _ I hw) λv g ⟨x,H1,f,c,q1⟩=>?_) (he _);obtain⟨d,rfl,q⟩:=q1;cases c;exact wpAny_truthy_bool ⟨H1,f,q⟩
variable{tA tB':TT}{rest:List Expr}
def aa9(t u:TT):TT:=λσ H Q=>t σ H λc H1=>if c=true then u σ H1 Q else Q false H1
def tOr(t u:TT):TT:=λσ H Q=>t σ H λc H1=>if c=true then Q true H1 else u σ H1 Q
def aaZ(t:TT):TT:=λσ H Q=>t σ H λc H1=>Q (!c) H1
theorem rY(f:PT X a tA):PW X (.BoolOp .And [a] pos) tA:=by
 intro g b s d H Q I h;refine isTrue_and (dG (f b s d H Q I h) λc i e=>?_);cases c with
 | true=>exact isTrue_and_nil e
 | false=>exact e
theorem nJ(f:PT X a tA):PW X (.BoolOp .Or [a] pos) tA:=by
 intro g b s d H Q I h;refine isTrue_or (dG (f b s d H Q I h) λc i e=>?_);cases c with
 | false=>exact isTrue_or_nil e
 | true=>exact e
theorem ud(k:PT X a tA)(j:PW X (.BoolOp .And (b::rest) pos) tB'):PW X (.BoolOp .And (a::b::rest) pos) (aa9 tA tB'):=by
 intro g d s e H Q I h;refine isTrue_and (dG (k d s e H _ I h) λc i ⟨H1,f,q1⟩=>?_);cases c with
 | true=>exact j g d i e H1 Q f q1
 | false=>exact⟨H1,f,q1⟩
theorem pN(k:PT X a tA)(j:PW X (.BoolOp .Or (b::rest) pos) tB'):PW X (.BoolOp .Or (a::b::rest) pos) (tOr tA tB'):=by
 intro g d s e H Q I h;refine isTrue_or (dG (k d s e H _ I h) λc i ⟨H1,f,q1⟩=>?_);cases c with
 | true=>exact⟨H1,f,q1⟩
 | false=>exact j g d i e H1 Q f q1
theorem fP(e:PT X a tA):PT X (.UnaryOp .Not a pos) (aaZ tA):=by
 intro b s d H Q I h;exact isTrue_not (e b s d H (λc H1=>Q (!c) H1) I h)
inductive Nr(tb:TE)(σ:St)(Q:VK)(x:V)(H1:Hp):Prop|m:∀c,x=.bl c->(if c=true then tb σ H1 Q else Q (.bl false) H1)->Nr tb σ Q x H1
def adQ(b a:TE):TE:=λσ H Q=>b σ H λx H1=>Nr a σ Q x H1
inductive Te(tb:TE)(σ:St)(Q:VK)(x:V)(H1:Hp):Prop|m:∀c,x=.bl c->(if c=true then Q (.bl true) H1 else tb σ H1 Q)->Te tb σ Q x H1
def adI(b a:TE):TE:=λσ H Q=>b σ H λx H1=>Te a σ Q x H1
inductive Np(Q:VK)(x:V)(H1:Hp):Prop|m:∀c,x=.bl c->Q (.bl (!c)) H1->Np Q x H1
def adJ(a:TE):TE:=λσ H Q=>a σ H λx H1=>Np Q x H1
theorem jA{op}{t:TE}(h:PE X a t):PE X (.BoolOp op [a] pos) t:=λb s c H Q I hw=>BoolOp_one (h b s c H Q I hw)
theorem j9(k:PE X a ta)(j:PE X (.BoolOp .And (b::rest) pos) tb):PE X (.BoolOp .And (a::b::rest) pos) (adQ ta tb):=by
 intro d s e H Q I h;refine BoolOp_and (dG (k d s e H _ I h) λv g l=>?_);obtain⟨x,H1,f,i,q1⟩:=l;obtain⟨c,rfl,q1⟩:=q1;cases i;refine wpAny_truthy_bool ?_;cases c with
 | true=>exact j d g e H1 Q f q1
 | false=>exact⟨.bl false,H1,f,Z,q1⟩
theorem Uu(k:PE X a ta)(j:PE X (.BoolOp .Or (b::rest) pos) tb):PE X (.BoolOp .Or (a::b::rest) pos) (adI ta tb):=by
 intro d s e H Q I h;refine BoolOp_or (dG (k d s e H _ I h) λv g l=>?_);obtain⟨x,H1,f,i,q1⟩:=l;obtain⟨c,rfl,q1⟩:=q1;cases i;refine wpAny_truthy_bool ?_;cases c with
 | false=>exact j d g e H1 Q f q1
 | true=>exact⟨.bl true,H1,f,Z,q1⟩
theorem Uv(f:PE X a ta):PE X (.UnaryOp .Not a pos) (adJ ta):=by
 intro b s d H Q I h;refine UnaryOp_ (dG (f b s d H _ I h) λv j g=>?_);obtain⟨x,H1,i,e,q1⟩:=g;obtain⟨c,rfl,q1⟩:=q1;cases e;exact not_of (wpAny_truthy_bool ⟨.bl (!c),H1,i,Z,q1⟩)
def tIf(t:TT)(b a:TE):TE:=λσ H Q=>t σ H λc H1=>if c=true then b σ H1 Q else a σ H1 Q
theorem lO(j:PT X c tA)(l:PE X a ta)(k:PE X b tb):PE X (.IfExp c a b pos) (tIf tA ta tb):=by
 intro e s f H Q I h;refine wpAny_IfExp (dG (j e s f H _ I h) λd g ⟨H1,i,q1⟩=>?_);cases d with
 | true=>exact l e g f H1 Q i q1
 | false=>exact k e g f H1 Q i q1
end
def bG(K:zzy)(H:Hp)(a:Addr)(xs:List V):Prop:=
 Rd H a (.lst xs) \/
  ∃(o:Obj) (its:Array Value) (n:Nat),K.lookup a=some o/\o.cls=.type "list" /\ o.dict=none/\o.data=.seq its n/\its.size<=sizeLine/\Vals xs its.toList
def cD(K:zzy)(H:Hp)(a:Addr)(xs:List V):Prop:=
 Rd H a (.tup xs) \/
  ∃(o:Obj) (its:Array Value) (n:Nat),K.lookup a=some o/\o.cls=.type "tuple" /\ o.data=.seq its n/\its.size<=sizeLine/\Vals xs its.toList
def aja:Value->Option V
 | .none=>some .non
 | .bool b=>some (.bl b)
 | .int i _=>some (.int i)
 | .str x _=>some (.str x)
 | .bytes b _=>some (.Mi b)
 | .float b _=>some (.flt b)
 | .ref a=>some (.ref a)
 | .type n=>some (.ty n)
 | _=>none
theorem RelV.abs{x:V}(r:RelV x u):aja u=some x:=by
 cases x with
 | non=>cases r;rfl
 | bl _=>cases r;rfl
 | int _=>obtain⟨t,rfl⟩:=r;rfl
 | str _=>obtain⟨t,rfl⟩:=r;rfl
 | Mi _=>obtain⟨t,rfl⟩:=r;rfl
 | flt _=>obtain⟨t,rfl⟩:=r;rfl
 | ref _=>cases r;rfl
 | ty _=>cases r;rfl
theorem RelV.inj{x:V}(r:RelV x u)(q:RelV y u):x=y:=abe (r.abs.symm.trans q.abs)
theorem Vals.inj{xs ys:List V}{us:zzt}(h:Vals xs us)(h':Vals ys us):xs=ys:=by
 induction h generalizing ys with
 | nil=>cases h';rfl
 | cons r t c=>cases h' with
   | cons b a=>rw[r.inj b,c a]
theorem bG.of(h:H a=some (.lst xs)):bG K H a xs:= .inl (.inl h)
theorem cD.of(h:H a=some (.tup xs)):cD K H a xs:= .inl (.inl h)
theorem Inv.list(I:Inv X pins σ H s)(h:bG X.K H a xs):∃its:List Value,Vals xs its/\PlainL s.heap a its.toArray/\xs.length<=sizeLine:=by
 rcases h with h|⟨o,its,n,c,f,d,b,g,r⟩
 .obtain⟨z,its,n,r,e⟩:=h.ok I.hok
  exact⟨its,r,⟨_,n,e,Z,Z,Z⟩,z⟩
 .refine⟨its.toList,r,⟨o,n,I.oH a o c,f,d,by simpa using b⟩,?_⟩
  have e:=r.length;simp only[aaH] at e;lia
theorem Inv.tuple(I:Inv X pins σ H s)(h:cD X.K H a xs):∃its:List Value,Vals xs its/\IsTup s.heap a its.toArray/\xs.length<=sizeLine:=by
 rcases h with h|⟨o,its,n,c,d,b,f,r⟩
 .obtain⟨z,its,r,p⟩:=h.ok I.hok
  exact⟨its,r,p,z⟩
 .refine⟨its.toList,r,⟨o,I.oH a o c,d,n,by simpa using b⟩,?_⟩
  have e:=r.length;simp only[aaH] at e;lia
theorem Inv.vI(I:Inv X pins σ H s)(h:bG X.K H a xs)(h':bG X.K H a ys):xs=ys:=by
 obtain⟨c,r,⟨o,n,e,_,_,d⟩,_⟩:=I.list h;obtain⟨b,i,⟨j,k,f,_,_,g⟩,_⟩:=I.list h';rw[e] at f;cases f;rw[d] at g;injection g with d1 _
 have:c=b:=by simpa using congrArg Array.toList d1
 subst this;exact r.inj i
theorem Inv.wO(I:Inv X pins σ H s)(h:cD X.K H a xs)(h':cD X.K H a ys):xs=ys:=by
 obtain⟨c,r,⟨o,e,_,n,d⟩,_⟩:=I.tuple h;obtain⟨b,i,⟨j,f,_,k,g⟩,_⟩:=I.tuple h';rw[e] at f;cases f;rw[d] at g;injection g with d1 _
 have:c=b:=by simpa using congrArg Array.toList d1
 subst this;exact r.inj i
abbrev Cx.wish(X:Cx)(E:zzx):Cx:={X with xe:=E}
abbrev Cx.nox(X:Cx):Cx:=X.wish λ_ _=>False
theorem Cx.Ok.wish{X:Cx}(ok:X.Ok)(E:zzx):(X.wish E).Ok:=
 ⟨ok.mod,ok.kind,ok.glob,ok.blt,ok.above,ok.inj,ok.has,ok.cab,ok.hd,ok.frames,ok.stk,ok.exf,ok.bs,ok.Mj,ok.Gs,ok.JG,ok.pW,ok.RN⟩
theorem Cx.Ok.qe(ok:(X.wish E).Ok):X.Ok:=
 ⟨ok.mod,ok.kind,ok.glob,ok.blt,ok.above,ok.inj,ok.has,ok.cab,ok.hd,ok.frames,ok.stk,ok.exf,ok.bs,ok.Mj,ok.Gs,ok.JG,ok.pW,ok.RN⟩
theorem Inv.wish(I:Inv X pins σ H s)(E:zzx):Inv (X.wish E) pins σ H s:=⟨I.ok.wish E,I.os,I.bare,I.base,I.loc,I.cell,I.free,I.jr,I.pin,I.hok,I.len⟩
theorem Inv.qe(I:Inv (X.wish E) pins σ H s):Inv X pins σ H s:=⟨I.ok.qe,I.os,I.bare,I.base,I.loc,I.cell,I.free,I.jr,I.pin,I.hok,I.len⟩
theorem SP.qe{D:Ends}{f:Flow}{s':Shared}(h:SP (X.wish E) pins D f s'):SP X pins D f s':=by
 cases f with
 | next=>obtain⟨a,b,I,q⟩:=h;exact⟨a,b,I.qe,q⟩
 | brk=>obtain⟨a,b,I,q⟩:=h;exact⟨a,b,I.qe,q⟩
 | cont=>obtain⟨a,b,I,q⟩:=h;exact⟨a,b,I.qe,q⟩
 | ret u=>obtain⟨v,a,b,I,r,q⟩:=h;exact⟨v,a,b,I.qe,r,q⟩
theorem Kf.nox{st:List Stmt}{t:TS}(h:Kf X.nox st t):Kf X st t:=λa s b H D I hw=>
 wpAny_mono (h a s b H D (I.wish _) hw) (λ_ _ q=>q.qe) λ_ _ z=>False.elim z
section
variable{rest:List Stmt}{t u:TS}
def uN:TS:=λD σ H=>D.nx σ H
def Ik(t u:TS):TS:=λD σ H=>t {D with nx:=u D} σ H
theorem bJ:Kf X [] uN:=λ_ _ a H _ I h=>wpAny_execs_nil ⟨a,H,I,h⟩
theorem aB(g:PS X st t)(e:Kf X rest u):Kf X (st::rest) (Ik t u):=by
 intro a s c H D I h;refine wpAny_execs_cons (dG (g a s c H {D with nx:=u D} I h) λf d q=>?_);cases f with
 | next=>
   obtain⟨b,j,i,q⟩:=q;exact e a d b j D i q
 | ret v=>exact q
 | brk=>exact q
 | cont=>exact q
theorem aJ(c:PS X st t):Kf X [st] t:=by
 intro a s b H D I h;refine wpAny_execs_cons (dG (c a s b H D I h) λf d q=>?_);cases f with
 | next=>exact wpAny_execs_nil q
 | ret v=>exact q
 | brk=>exact q
 | cont=>exact q
def aa7:TS:=λD σ H=>D.bk σ H
theorem Ul:PS X (.Break pos) aa7:=λ_ _ a H _ I h=>wpAny_Break ⟨a,H,I,h⟩
theorem Inv.quiet(I:Inv X pins σ H s):interactive X.env=false:=by simp[interactive,I.ok.kind]
def Ti(a:TE):TS:=λD σ H=>a σ H λ_ H1=>D.nx σ H1
theorem cN(he:PE X e te)(hs:swapsWith e none pos.line X.env=pure false:=by rfl):PS X (.Expr e pos) (Ti te):=by
 intro a s b H D I h;exact wpAny_Expr_any (dG (he a s b H _ I h) λv d ⟨x,H1,c,f,q1⟩=>⟨b,H1,c,q1⟩) I.quiet hs
def Xx(a:TE):TS:=λD σ H=>a σ H D.rt
theorem bw(he:PE X e te):PS X (.Return (some e) pos) (Xx te):=by
 intro a s b H D I h;exact wpAny_Return_some (dG (he a s b H _ I h) λv f ⟨x,H1,d,c,q1⟩=>⟨x,b,H1,d,c,q1⟩)
def adH:TS:=λD _ H=>D.rt .non H
theorem Yl:PS X (.Return none pos) adH:=λ_ _ a H _ I h=>wpAny_Return_none ⟨.non,a,H,I,Z,h⟩
def adL(c:TT)(t u:TS):TS:=λD σ H=>c σ H λb H1=>if b=true then t D σ H1 else u D σ H1
theorem cj{a b:List Stmt}(j:PT X c tc)(l:Kf X a t)(k:Kf X b u):PS X (.If c a b pos) (adL tc t u):=by
 intro e s f H D I h;refine wpAny_If (dG (j e s f H _ I h) λd g ⟨H1,i,q1⟩=>?_);cases d with
 | true=>exact l e g f H1 D i q1
 | false=>exact k e g f H1 D i q1
def aa0:TS:=λ_ _ _=>False
theorem Uk:PS X st aa0:=λ_ _ _ _ _ _ h=>h.elim
end
abbrev TG:=V->St->Hp->(St->Hp->Prop)->Prop
abbrev TGs:=List V->St->Hp->(St->Hp->Prop)->Prop
def PG(X:Cx)(target:Expr)(t:TG):Prop:=
 ∀(pins:zzw)(s:Shared)(σ:St)(H:Hp)(v:V)(u:Value)(Q:St->Hp->Prop),Inv X pins σ H s->RelV v u->t v σ H Q ->
  wpAny (model X.prog X.w) X.A (assign target X.env u) (λ_ s'=>∃a H',Inv X pins a H' s'/\Q a H') X.xe s
def PGs(X:Cx)(ts:List Expr)(t:TGs):Prop:=
 ∀(pins:zzw)(s:Shared)(σ:St)(H:Hp)(vs:List V)(us:zzt)(Q:St->Hp->Prop),Inv X pins σ H s->Vals vs us->t vs σ H Q ->
  wpAny (model X.prog X.w) X.A (assignInOrder ((assignEach ts X.env).map (·.2)) us) (λ_ s'=>∃a H',Inv X pins a H' s'/\Q a H') X.xe s
abbrev WM:=V->V->V->Hp->(Hp->Prop)->Prop
def acK(X:Cx)(t:WM):Prop:=
 ∀(pins:zzw)(s:Shared)(σ:St)(H:Hp)(o i v:V)(a b u:Value)(Q:Hp->Prop),Inv X pins σ H s->RelV o a->RelV i b->RelV v u->t o i v H Q ->
  wpAny (model X.prog X.w) X.A (setItem a b u) (λ_ s'=>∃H',Inv X pins σ H' s'/\Q H') X.xe s
abbrev TIp:=V->V->Hp->VK->Prop
def PIp(X:Cx)(op:Operator)(t:TIp):Prop:=
 ∀(pins:zzw)(s:Shared)(σ:St)(H:Hp)(x y:V)(v u:Value)(Q:VK),Inv X pins σ H s->RelV x v->RelV y u->t x y H Q ->
  wpAny (model X.prog X.w) X.A (inplaceOp op v u) (EP X pins σ Q) X.xe s
def bU(i:Nat):TG:=λv σ H Q=>Q (σ.set i (some v)) H
theorem bK(d:X.N.Nodup)(hi:X.N[i]?=some x)(b:Loc X.env.scope x)(c:X.fn x=true\/X.env.scope.names.lookup x=some .local:=by first |exact .inl rfl|exact .inr rfl|assumption):PG X (.Name x pos) (bU i):=by
 intro a s f H v u Q I r h;exact wpAny_assign_Name (uP I d hi b r (λg e=>⟨_,H,e,h⟩) c)
def acj:TGs:=λvs σ H Q=>vs=[]/\Q σ H
inductive Ej(t:TG)(u:TGs)(vs:List V)(σ:St)(H:Hp)(Q:St->Hp->Prop):Prop|m:∀v r,vs=v::r->(t v σ H λσ' H'=>u r σ' H' Q)->Ej t u vs σ H Q
theorem Gk:PGs X [] acj:=by
 intro a s b H c d Q I r h;obtain⟨e,h⟩:=h;subst e;cases r;exact assignInOrder_nil ⟨b,H,I,h⟩
theorem oh{t:TG}{u:TGs}(i:PG X e t)(g:PGs X es u)(hs:(assignEach (e::es) X.env).map (·.2)=assign e X.env::(assignEach es X.env).map (·.2):=by rfl):PGs X (e::es) (Ej t u):=by
 intro a s c H m o Q I r h;obtain⟨v,n,k,h⟩:=h;subst k;cases r with
 | cons r f=>
   rw[hs];refine assignInOrder_cons (dG (i a s c H _ _ _ I r h) λ_ d j=>?_);obtain⟨b,H1,l,q1⟩:=j;exact g a d b H1 _ _ Q l f q1
inductive V5(K:zzy)(n:Nat)(t:TGs)(v:V)(σ:St)(H:Hp)(Q:St->Hp->Prop):Prop|m:∀a xs,v=.ref a->cD K H a xs->xs.length=n->t xs σ H Q->V5 K n t v σ H Q
theorem abr{t:TGs}(x:X.calm=true)(h:PGs X es t)(q:(assignEach es X.env).length=n:=by rfl)(d:(assignEach es X.env).findIdx? (·.1)=none:=by rfl):PG X (.Tuple es k pos) (V5 X.K n t):=by
 intro c s f H v u Q I r hw;obtain⟨a,i,z,p,w,hw⟩:=hw;subst z;cases r;obtain⟨j,g,m,B⟩:=I.tuple p;refine assign_Tuple_tuple (I.ok.hd x) m (by simp[q,←w,g.length]) d λy l=>?_;have A:Inv X c f H {s with heap:=y}:=I.kept (t':=s.toks) λb o e=>l b o (abX (aap e)) e;exact h c _ f H i _ Q A (by simpa using g) hw
def aci(to a:TE)(t:WM):TG:=λv σ H Q=>to σ H λo H1=>a σ H1 λi H2=>t o i v H2 λb=>Q σ b
theorem qM{o i:Expr}{f:TE}{t:WM}(m:PE X o to)(hi:PE X i f)(hs:acK X t)(n:∀v,assign (.Subscript o i pos) X.env v=(do
   let b ←holding [v] (eval o X.env)
   let c ←holding [v,b] (eval i X.env)
   standAt pos
   holding [v,b,c] (setItem b c v)
   release [v,b,c] []):=by intro _;rfl):PG X (.Subscript o i pos) (aci to f t):=by
 intro a s d H v u Q I r h;rw[n];refine aax (wpAny_holding (dG (m a s d H _ I h) λb j e=>?_));obtain⟨x,H1,w,l,q1⟩:=e;refine aax (wpAny_holding (dG (hi a j d H1 _ w q1) λc g e=>?_));obtain⟨y,H2,q,k,q2⟩:=e;refine aax (wpAny_standAt (aax (wpAny_holding (dG (hs a g d H2 x y v b c u _ q l k r q2) λ_ A ⟨z,p,q3⟩=>?_))));exact wpAny_release ⟨d,z,p,q3⟩
def Xz(a:TE)(g:TG):TS:=λD σ H=>a σ H λx H1=>g x σ H1 D.nx
theorem pq{g:TG}(he:PE X e te)(f:PG X tg g)(hs:swapsWithSole [tg] e pos.line X.env=pure false:=by rfl)(hw:swappedStores [tg] e X.env=pure none:=by rfl)(i:(assignEach [tg] X.env).map (·.2)=[assign tg X.env]:=by rfl):PS X (.Assign [tg] e pos) (Xz te g):=by
 intro a s b H D I h;refine wpAny_Assign_stores (dG (he a s b H _ I h) λv c ⟨x,H1,j,d,q1⟩=>?_) hs hw;rw[i];exact dG (f a c b H1 x v _ j d q1) λ_ k q=>q
theorem bH(g:X.N.Nodup)(hi:X.N[i]?=some x)(d:Loc X.env.scope x)(he:PE X e te)(hs:swapsWith e (some (.Name x pos')) pos.line X.env=pure false:=by rfl)(f:X.fn x=true\/X.env.scope.names.lookup x=some .local:=by first |exact .inl rfl|exact .inr rfl|assumption):
 PS X (.Assign [.Name x pos'] e pos) (Xz te (bU i)):=by
 intro a s b H D I h;refine wpAny_Assign_Name (dG (he a s b H _ I h) λv m ⟨y,H1,k,c,q1⟩=>?_) hs;exact uP k g hi d c (λl j=>⟨_,H1,j,q1⟩) f
def agZ(i:Nat)(b:TE)(a:TIp):TS:=λD σ H=>∃x,σ[i]?=some (some x)/\b σ H λy H1=>a x y H1 λz H2=>D.nx (σ.set i (some z)) H2
theorem abo{q:TIp}(L:X.N.Nodup)(hi:X.N[i]?=some x)(n:Loc X.env.scope x)(he:PE X e te)(C:PIp X op q)(J:X.fn x=true\/X.env.scope.names.lookup x=some .local:=by first |exact .inl rfl|exact .inr rfl|assumption):
 PS X (.AugAssign (.Name x pos') op e pos) (agZ i te q):=by
 intro a s p H D I h;obtain⟨v,M,h⟩:=h;obtain⟨m,E,G⟩:=I.loc;have j:Vis X.env.scope x:=by rcases n with k|k;exact .inl k;exact .inr (.inl k)
 obtain⟨u,r,l⟩:=G i x v hi M j;refine wpAny_AugAssign_Name ?_
 have go:wpAny (model X.prog X.w) X.A (eval e X.env) (λw g=>wpAny (model X.prog X.w) X.A (inplaceOp op u w) (λr f=>wpAny (model X.prog X.w) X.A (storeName X.env x r) (λ_=>SP X a D .next) X.xe f) X.xe g) X.xe s:=by
  refine dG (he a s p H _ I h) λw t o=>?_;obtain⟨y,H1,P,B,q1⟩:=o;refine dG (C a t p H1 v y u w _ P r B q1) λz S o=>?_;obtain⟨Q,H2,O,A,q2⟩:=o;exact uP O L hi n A (λR N=>⟨_,H2,N,q2⟩) J
 rcases l with ⟨b,F⟩|⟨b,c,K,d⟩
 .exact wpAny_loadName_local I.ok.kind b E F go
 .rcases b with b|b
  .exact wpAny_loadName_cell I.ok.kind b K d go
  .rcases n with k|k
   .have:X.env.scope.names.lookup x=some .free:=b
    rw[k] at this;cases this
   .have:X.env.scope.names.lookup x=some .free:=b
    rw[k] at this;cases this
def adP(to b c:TE)(d:V->V->Hp->VK->Prop)(a:TIp)(e:WM):TS:=λD σ H=>to σ H λo H1=>b σ H1 λi H2=>d o i H2 λx j=>c σ j λy h=>a x y h λz g=>e o i z g λf=>D.nx σ f
def afh(X:Cx)(t:V->V->Hp->VK->Prop):Prop:=
 ∀(pins:zzw)(s:Shared)(σ:St)(H:Hp)(o i:V)(a b:Value)(Q:VK),Inv X pins σ H s->RelV o a->RelV i b->t o i H Q ->
  wpAny (model X.prog X.w) X.A (getItem a b) (EP X pins σ Q) X.xe s
theorem Ym{o i:Expr}{l:TE}{g:TIp}{p:WM}(F:PE X o to)(hi:PE X i l)(G:afh X Xq)(he:PE X e te)(E:PIp X op g)(hs:acK X p)(J:∀c d new,augStore i c d new=(do holding [new,c,d] (setItem c d new);release [new,c,d] [];pure .next):=by intros;rfl):PS X (.AugAssign (.Subscript o i tpos) op e pos) (adP to l te Xq g p):=by
 intro a s b H D I h;refine wpAny_AugAssign_SubscriptAny (dG (F a s b H _ I h) λc z ⟨k,H1,P,n,q1⟩=>?_) J;refine dG (hi a z b H1 _ P q1) λd y f=>?_;obtain⟨j,H2,O,m,q2⟩:=f;refine dG (G a y b H2 k j c d _ O n m q2) λold x f=>?_;obtain⟨t,T,N,C,q3⟩:=f;refine dG (he a x b T _ N q3) λv w f=>?_;obtain⟨r,S,M,B,q4⟩:=f;refine dG (E a w b S t r old v _ M C B q4) λnew u f=>?_;obtain⟨q,R,L,A,q5⟩:=f;exact dG (hs a u b R k j q c d new _ L n m A q5) λ_ U ⟨Q,K,q6⟩=>⟨b,Q,K,q6⟩
inductive ipI(f:Int->Int->Int)(x y:V)(H:Hp)(Q:VK):Prop|m:∀i j,x=.int i->y=.int j->Q (.int (f i j)) H->ipI f x y H Q
theorem GD:PIp X .Add (ipI λi j=>i+j):=by
 intro a s f H x y v u Q I c b h;obtain⟨i,j,e,d,q⟩:=h;subst e;subst d;obtain⟨t,rfl⟩:=c;obtain⟨g,rfl⟩:=b;exact iadd_int ⟨.int _,H,I.tok _,⟨_,Z⟩,q⟩
def aaW(c:TT)(e:TS):TS:=λD σ H=>∃W:Nat->St->Hp->Prop,(∃m,W m σ H) /\ ∀m σ H,W m σ H ->
 c σ H λb H1=>if b=true then ∃N:St->Hp->Prop,(∀a H',N a H' -> ∃d,d<m/\W d a H')/\e {D with nx:=N,ct:=N,bk:=D.nx} σ H1 else D.nx σ H1
theorem Uj(p:PassesOwn (model X.prog X.w) X.A X.env X.xe)(B:PT X c tc)(C:Kf X body tb):PS X (.While c body [] pos) (aaW tc tb):=by
 intro d s u H D I h;obtain⟨W,⟨m0,x⟩,turn⟩:=h;refine wpAny_While (codeAny_whileLoop (λn A=>∃g t,Inv X d g t A/\W n g t) ?_ m0 ⟨u,H,I,x⟩);rintro n z ⟨e,H1,E,w⟩;refine wpAny_passesOwn p (dG (B d z e H1 _ E (turn n e H1 w)) λb y ⟨H2,r,q2⟩=>?_);cases b with
 | true=>
   obtain⟨N,q,q2⟩:=q2;rw[ac_ rfl];refine wpAny_passesOwn p (dG (C d y e H2 _ r q2) λf F q3=>?_);cases f with
   | next=>
     obtain⟨a,i,o,k⟩:=q3;obtain⟨l,m,j⟩:=q a i k;exact⟨l,m,a,i,o,j⟩
   | cont=>
     obtain⟨a,i,o,k⟩:=q3;obtain⟨l,m,j⟩:=q a i k;exact⟨l,m,a,i,o,j⟩
   | brk=>exact q3
   | ret v=>exact q3
 | false=>
   rw[ac9 aaV];exact wpAny_execs_nil ⟨e,H2,r,q2⟩
structure It where
 go:Nat->Hp->Prop
 yld:Nat->Hp->V->Hp->Prop
 stop:Nat->Hp->Prop
def rJ(X:Cx)(a:zzw)(H:Hp)(b:Addr):Prop:=
 H b=none/\b≠X.env.locals/\b∉X.fs/\(b∈X.ex\/X.s₀.heap.objs.size<=b)/\(∀x c,X.env.cells.lookup x=some c->c≠b) /\ ∀p∈X.pn++a,p.1≠b
theorem Inv.yS(I:Inv X pins σ H s)(a:s.heap.objs.size<=b)(f:H' b=none):rJ X pins H' b:=by
 refine⟨f,Nat.ne_of_gt (ab0 I.lt a),I.aie a,.inr (ac5 I.sz a),λx c e z=>?_,λp d z=>?_⟩
 .obtain⟨v,q⟩:=I.cell x c e
  exact ac' (ab0 q.lt (by rw[z];exact a)) (ac4 _)
 .exact ac' (ab0 (aap (I.pin p d).1) (by rw[z];exact a)) (ac4 _)
structure Turn(P:Program)(w:World)(K:zzy)(tg:Expr)(J:It)(fp:List Addr)(it:Addr)(tn:Nat->Heap->Prop):Prop where
 mem:it∈fp
 obj:∀i h,tn i h -> ∀b∈fp,∃o,h.get? b=some o /\ ∀v,o.data ≠ .cell v
 keep:∀i h h',tn i h->(∀b∈fp,∀o,h.get? b=some o->h'.get? b=some o)->tn i h'
 item:∀(X:Cx),X.prog=P->X.w=w->X.K=K->X.calm=true -> ∀(i:Nat)(pins:zzw)(s:Shared)(σ:St)(H:Hp)(E:zzx),Inv X pins σ H s->(∀b∈fp,rJ X pins H b)->tn i s.heap->J.go i H ->
  wpAny (model P w) X.A (pyNext (.ref it)) (λr s1=>∃u,r=some u /\
   wpAny (model P w) X.A (letOwnedTupleGo tg (.ref it) u) (λ_ s2=>∃x H',Inv X pins σ H' s2/\RelV x u/\J.yld i H x H'/\tn (i+1) s2.heap /\ ∀b∈fp,H' b=none) E s1) E s
 done:∀(X:Cx),X.prog=P->X.w=w->X.K=K->X.calm=true -> ∀(i:Nat)(pins:zzw)(s:Shared)(σ:St)(H:Hp)(E:zzx),Inv X pins σ H s->(∀b∈fp,rJ X pins H b)->tn i s.heap->J.stop i H ->
  wpAny (model P w) X.A (pyNext (.ref it)) (λr s1=>r=none/\Inv X pins σ H s1) E s
 self:∀(A:Around)(i:Nat)(s:Shared)(Q:zzx)(E:zzx),tn i s.heap->Q (.ref it) s->wpAny (model P w) A (pyIter (.ref it)) Q E s
abbrev TI:=St->Hp->(It->Hp->Prop)->Prop
def PIE(X:Cx)(a:zzw)(e:St)(f:Expr)(R:It->Hp->Prop)(c:Value)(d:Shared):Prop:=
 ∃(it:Addr) (fp:List Addr) (tn:Nat->Heap->Prop) (J:It) (H':Hp),c=.ref it/\Inv X a e H' d/\Turn X.prog X.w X.K f J fp it tn/\tn 0 d.heap/\(∀b∈fp,rJ X a H' b)/\R J H'
def PI(X:Cx)(b iter:Expr)(a:TI):Prop:=
 ∀(pins:zzw)(s:Shared)(σ:St)(H:Hp)(R:It->Hp->Prop),Inv X pins σ H s->a σ H R ->
  wpAny (model X.prog X.w) X.A (eval iter X.env) (λv c=>wpAny (model X.prog X.w) X.A (pyIter v) (PIE X pins σ b R) X.xe c) X.xe s
theorem Ei{M:Model}{o:Obj}{n:String}{vs:Array Value}{Q:zzu}(b:s.heap.get? it=some o)(e:o.cls=.type n)(d:o.data=.fields vs)(c:["enumerate","zip","dict_itemiterator","dict_reverseitemiterator","odict_iterator","itertools.zip_longest","itertools.pairwise"].contains n=false)(a:Q () s):wpAny M A (letOwnedTupleGo tg (.ref it) u) Q E s:=by
 unfold letOwnedTupleGo
 cases tg<;>first
  | exact aay a
  | (cases u<;>first
      | exact aay a
      | (refine aax (wpAny_load b ?_)
         rw[e,d];show wpAny M A (if (["enumerate","zip","dict_itemiterator","dict_reverseitemiterator","odict_iterator","itertools.zip_longest","itertools.pairwise"].contains n&&vs[0]? == some (rawInt _))=true then _ else _) Q E s;rw[ac9 (by intro h;rw[c,Bool.false_and] at h;cases h)];exact aay a))
def ZR(K:zzy)(a:Addr):It:=
 ⟨λi H=>∃xs x,bG K H a xs/\xs[i]?=some x,λi H x H'=>H'=H /\ ∀xs,bG K H a xs->xs[i]?=some x,λi H=>∃xs,bG K H a xs/\xs.length<=i⟩
def Itt(K:zzy)(a:Addr):It:=
 ⟨λi H=>∃xs x,cD K H a xs/\xs[i]?=some x,λi H x H'=>H'=H /\ ∀xs,cD K H a xs->xs[i]?=some x,λi H=>∃xs,cD K H a xs/\xs.length<=i⟩
def Xc(lo:Int)(n:Nat):It:=⟨λi _=>i<n,λi H x H'=>H'=H/\x=.int (lo+i),λi _=>n<=i⟩
theorem Qd(a it:Addr):Turn P w K tg (ZR K a) [it] it (λi h=>h.IsListIter it a i) where
 mem:=by simp
 obj:=λi h f b j=>by
  have e:b=it:=by simpa using j
  subst e;obtain⟨o,e,c,d⟩:=f;exact⟨o,e,λv z=>by rw[d] at z;cases z⟩
 keep:=λi h q f k=>f.at λo e=>k it (by simp) o e
 item:=by
  intro X B hw C N i g s M H E I n f A;subst B hw C;obtain⟨O,x,m,y⟩:=A;obtain⟨t,r,p,S⟩:=I.list m;obtain⟨u,U,R⟩:=r.get y;obtain⟨L,J,V,G,F,D⟩:=n it (by simp);refine wpAny_pyNext_list_item f p.isList (x:=u) (by simpa using U) λq l Q=>?_;have Y:Inv X g M H {s with heap:=q}:=I.turned (t':=s.toks) (λb o j e=>(Q.2 b j).trans e) L J G F D;obtain⟨o,e,c,d⟩:=id l;exact⟨u,Z,Ei (s:={s with heap:=q}) e c d (by decide) ⟨x,H,Y,R,⟨Z,λys T=>by rw[I.vI T m];exact y⟩,l,λb j=>(n b j).1⟩⟩
 done:=by
  intro X B hw C N i g s M H E I n f A;subst B hw C;obtain⟨O,m,y⟩:=A;obtain⟨t,r,p,S⟩:=I.list m;obtain⟨L,J,V,G,F,D⟩:=n it (by simp);have hl:=r.length;exact wpAny_pyNext_list_end (I.ok.hd N) f p.isList (by simp;lia) λq W=>⟨Z,I.turned (t':=s.toks) (λb o j e=>W b o j e) L J G F D⟩
 self:=λ_ _ _ _ _ f h=>wpAny_pyIter_listiter f h
theorem Kv(a it:Addr):Turn P w K tg (Itt K a) [it] it (λi h=>h.IsTupleIter it a i) where
 mem:=by simp
 obj:=λi h f b l=>by
  have e:b=it:=by simpa using l
  subst e;obtain⟨o,e,c,d⟩:=f;exact⟨o,e,λv z=>by rw[d] at z;cases z⟩
 keep:=λi h r f k=>f.at λo e=>k it (by simp) o e
 item:=by
  intro X B hw C N i g s M H E I q f A;subst B hw C;obtain⟨O,x,n,y⟩:=A;obtain⟨j,t,p,S⟩:=I.tuple n;obtain⟨u,U,R⟩:=t.get y;obtain⟨L,J,V,G,F,D⟩:=q it (by simp);refine wpAny_pyNext_tuple_item f (show s.heap.IsTuple a j.toArray from p) (x:=u) (by simpa using U) λr m Q=>?_;have Y:Inv X g M H {s with heap:=r}:=I.turned (t':=s.toks) (λb o l e=>(Q.2 b l).trans e) L J G F D;obtain⟨o,e,c,d⟩:=id m;exact⟨u,Z,Ei (s:={s with heap:=r}) e c d (by decide) ⟨x,H,Y,R,⟨Z,λys T=>by rw[I.wO T n];exact y⟩,m,λb l=>(q b l).1⟩⟩
 done:=by
  intro X B hw C N i g s M H E I q f A;subst B hw C;obtain⟨O,n,y⟩:=A;obtain⟨j,t,p,S⟩:=I.tuple n;obtain⟨L,J,V,G,F,D⟩:=q it (by simp);have hl:=t.length;exact wpAny_pyNext_tuple_end (I.ok.hd N) f (show s.heap.IsTuple a j.toArray from p) (by simp;lia) λr W=>⟨Z,I.turned (t':=s.toks) (λb o l e=>W b o l e) L J G F D⟩
 self:=λ_ _ _ _ _ f h=>wpAny_pyIter_tupleiter f h
theorem Kw(it:Addr)(lo:Int)(n:Nat):Turn P w K tg (Xc lo n) [it] it (λi h=>IsRangeIter h it (lo+(i:Nat)*1) ((n:Int)-(i:Nat)) 1) where
 mem:=by simp
 obj:=λi h a b d=>by
  have e:b=it:=by simpa using d
  subst e
  exact⟨_,a,λv z=>by
   have D:Data.fields _=Data.cell v:=z;cases D⟩
 keep:=λi h j a k=>k it (by simp) _ a
 item:=by
  intro X p hw q m i c s B H E I g a l;subst p hw q;obtain⟨A,y,J,x,u,r⟩:=g it (by simp);have W:=Walks.range (prog:=X.prog) (w:=X.w) (I.ok.hd m) it lo 1 n;refine W.item i s _ _ l a λv j C G f F=>?_;obtain⟨t,rfl⟩:=G;have M:Inv X c B H {s with heap:=j,toks:=C}:=I.turned (λb o d e=>F b o (by simpa using d) e) A y x u r;refine⟨_,Z,Ei (s:={s with heap:=j,toks:=C}) (n:= "range_iterator") f rfl rfl (by decide) ⟨.int (lo+i),H,M,⟨t,?_⟩,⟨Z,Z⟩,f,λb d=>(g b d).1⟩⟩;rw[Int.mul_one]
 done:=by
  intro X p hw q m i c s B H E I g a l;subst p hw q;obtain⟨A,y,J,x,u,r⟩:=g it (by simp);exact wpAny_pyNext_range_end (I.ok.hd m) a (by have:n<=i:=l;lia) λj L=>⟨Z,I.turned (t':=s.toks) (λb o d e=>L b o d e) A y x u r⟩
 self:=λ_ _ _ _ _ a h=>wpAny_pyIter_rangeiter a h
inductive OD(K:zzy)(R:It->Hp->Prop)(x:V)(H1:Hp):Prop|m:∀a,x=.ref a->(∃xs,bG K H1 a xs)->R (ZR K a) H1->OD K R x H1
def aar(K:zzy)(a:TE):TI:=λσ H R=>a σ H λx H1=>OD K R x H1
inductive VJ(K:zzy)(R:It->Hp->Prop)(x:V)(H1:Hp):Prop|m:∀a,x=.ref a->(∃xs,cD K H1 a xs)->R (Itt K a) H1->VJ K R x H1
def aeu(K:zzy)(a:TE):TI:=λσ H R=>a σ H λx H1=>VJ K R x H1
theorem Yr{l:Expr}(m:PE X l tl):PI X tg l (aar X.K tl):=by
 intro c s g H R I h;refine dG (m c s g H _ I h) λv d r=>?_;obtain⟨x,H1,f,i,q1⟩:=r;obtain⟨a,e,⟨t,k⟩,q⟩:=q1;subst e;cases i;obtain⟨j,u,p,w⟩:=f.list k;refine wpAny_pyIter_list p.isList ?_;refine⟨d.heap.objs.size,[d.heap.objs.size],_,_,H1,Z,f.kept (t':=d.toks) λb o e=>aan _ e,Qd a _,⟨_,aao _ rfl,Z,Z⟩,λb n=>?_,q⟩;have e:b=d.heap.objs.size:=by simpa using n
 subst e;exact f.yS (aaw _) (f.hok.fresh (aaw _))
theorem abp{l:Expr}(m:PE X l tl):PI X tg l (aeu X.K tl):=by
 intro d s i H R I h;refine dG (m d s i H _ I h) λv c r=>?_;obtain⟨x,H1,f,j,q1⟩:=r;obtain⟨a,e,⟨t,k⟩,q⟩:=q1;subst e;cases j;obtain⟨g,u,p,w⟩:=f.tuple k;refine wpAny_pyIter_tuple (show c.heap.IsTuple a g.toArray from p) ?_;refine⟨c.heap.objs.size,[c.heap.objs.size],_,_,H1,Z,f.kept (t':=c.toks) λb o e=>aan _ e,Kv a _,⟨_,aao _ rfl,Z,Z⟩,λb n=>?_,q⟩;have e:b=c.heap.objs.size:=by simpa using n
 subst e;exact f.yS (aaw _) (f.hok.fresh (aaw _))
theorem Ja{R:It->Hp->Prop}{lo hi:Int}{t u v:Tok}{a:Nat}(I:Inv X pins σ H s)(i: -(2 ^ 62)<=lo)(h:lo<2 ^ 62)(g: -(2 ^ 62)<=hi)(f:hi<2 ^ 62)(q:R (Xc lo (hi-lo).toNat) H):wpAny (model X.prog X.w) X.A (pyIter (.ref s.heap.objs.size)) (PIE X pins σ tg R) E {s with heap:=s.heap.push {cls:= .type "range",data:= .fields #[.int lo t,.int hi u,.int 1 v]},toks:=a}:=by
 refine wpAny_pyIter_range (IsRange.new ..) (small_one i h g f) ?_;have c:Inv X pins σ H {s with heap:=s.heap.push {cls:= .type "range",data:= .fields #[.int lo t,.int hi u,.int 1 v]},toks:=a}:=I.kept λb o e=>aan _ e
 refine⟨(s.heap.push {cls:= .type "range",data:= .fields #[.int lo t,.int hi u,.int 1 v]}).objs.size,[(s.heap.push {cls:= .type "range",data:= .fields #[.int lo t,.int hi u,.int 1 v]}).objs.size],_,_,H,Z,
  c.kept (t':=a) λb o e=>aan _ e,Kw _ lo (hi-lo).toNat,?_,λb d=>?_,q⟩
 .have k:lo+((0:Nat):Int)*1=lo:=by simp
  have j:(((hi-lo).toNat:Nat):Int)-((0:Nat):Int)=Builtin.Range.rangeSize lo hi 1:=by rw[rangeSize_one];split<;>lia
  show IsRangeIter _ _ (lo+((0:Nat):Int)*1) ((((hi-lo).toNat:Nat):Int)-((0:Nat):Int)) 1;rw[k,j];exact aao _ rfl
 .have e:b=(s.heap.push {cls:= .type "range",data:= .fields #[.int lo t,.int hi u,.int 1 v]}).objs.size:=by simpa using d
  subst e;exact c.yS (aaw _) (c.hok.fresh (aaw _))
inductive Oz(R:It->Hp->Prop)(vs:List V)(H1:Hp):Prop|m:∀j:Int,vs=[.int j] -> -(2 ^ 62)<=j->j<2 ^ 62->R (Xc 0 j.toNat) H1->Oz R vs H1
def aew(a:TA):TI:=λσ H R=>a σ H λvs H1=>Oz R vs H1
def aev(a:TA):TI:=λσ H R=>a σ H λvs H1=>∃i j:Int,vs=[.int i,.int j]/\(-(2 ^ 62)<=i/\i<2 ^ 62 /\ -(2 ^ 62)<=j/\j<2 ^ 62)/\R (Xc i (j-i).toNat) H1
theorem cP{a:Expr}{c:TA}{p:Pos}(k:Gl X "range")(i:X.mg "range" = none)(l:PA X [a] c)(hs:starEach [a] X.env=[(false,eval a X.env)]:=by rfl):PI X tg (.Call (.Name "range" p) [a] [] pos) (aew c):=by
 intro b s d H R I h;refine Call_ (pF I k i boot_range (PyProof.Rows.callWith_type1 (dG (l pos b s d H _ I h) λo u ⟨n,H1,m,g,q1⟩=>?_) hs rfl));obtain⟨j,e,q1,q2,q⟩:=q1;subst e;cases g with
 | cons r f=>
   cases f;obtain⟨t,rfl⟩:=r;exact call_range_1 (Ja m (by lia) (by lia) q1 q2 (by simpa using q))
theorem DQ{a b:Expr}{g:TA}{p:Pos}(o:Gl X "range")(n:X.mg "range" = none)(u:PA X [a,b] g)(hs:starEach [a,b] X.env=[(false,eval a X.env),(false,eval b X.env)]:=by rfl)(d:starEach [b] X.env=[(false,eval b X.env)]:=by rfl):
 PI X tg (.Call (.Name "range" p) [a,b] [] pos) (aev g):=by
 intro c s k H R I h;refine Call_ (pF I o n boot_range (PyProof.Rows.callWith_type1 (dG (u pos c s k H _ I h) λx z ⟨w,H1,v,l,q1⟩=>?_) (by rw[hs,d]) (by rw[d];rfl)));obtain⟨i,j,e,⟨q1,q2,q3,q4⟩,q⟩:=q1;subst e;cases l with
 | cons r f=>
   cases f with
   | cons m f=>
     cases f;obtain⟨t,rfl⟩:=r;obtain⟨y,rfl⟩:=m;exact call_range_2 (Ja v q1 q2 q3 q4 q)
def agV(d:TI)(g:TG)(e:TS):TS:=λD σ H=>d σ H λJ H1=>∃W:Nat->Nat->St->Hp->Prop,(∃m,W 0 m σ H1) /\ ∀i m σ H,W i m σ H ->
 (J.stop i H/\D.nx σ H)\/(J.go i H /\ ∃N:St->Hp->Prop,(∀a H',N a H' -> ∃c,c<m/\W (i+1) c a H') /\ ∀x H',J.yld i H x H'->g x σ H' λb H2=>e {D with nx:=N,ct:=N,bk:=D.nx} b H2)
def Bp(a:List Addr)(h:Heap):List (Addr×Obj):=a.filterMap λb=>(h.get? b).map λo=>(b,o)
theorem pB{h:Heap}{o:Obj}(a:b∈fp)(e:h.get? b=some o):(b,o)∈Bp fp h:=List.mem_filterMap.mpr ⟨b,a,by rw[e];rfl⟩
theorem QH{h:Heap}{p:Addr×Obj}(a:p∈Bp fp h):p.1∈fp/\h.get? p.1=some p.2:=by
 obtain⟨b,c,e⟩:=List.mem_filterMap.mp a;cases q:h.get? b with
 | none=>rw[q] at e;cases e
 | some o=>
   rw[q] at e;have d:(b,o)=p:=abe e;subst d;exact⟨c,q⟩
theorem Inv.pinned(I:Inv X pins σ H s)(h:∀b∈fp,rJ X pins H b)(g:∀b∈fp,∃o,s.heap.get? b=some o /\ ∀v,o.data ≠ .cell v):Inv X (pins++Bp fp s.heap) σ H s:=
 I.Oc λp f=>(acG.mp f).elim (λz=>I.pin p (List.mem_append_right _ z)) λz=>by
  obtain⟨a,e⟩:=QH z;obtain⟨k,j,i,_⟩:=h p.1 a;obtain⟨o,c,d⟩:=g p.1 a;rw[e] at c;cases c;exact⟨e,k,j,i,d⟩
theorem Inv.uL{pl:zzw}(I:Inv X (pins++pl) σ H s):Inv X pins σ H s:=I.Oc λp a=>I.pin p (List.mem_append_right _ (List.mem_append_left _ a))
theorem iQ{S:TI}{g:TG}(A:PassesOwn (model X.prog X.w) X.A X.env X.xe)(hc:X.calm=true)(hi:PI X tg iter S)(hg:PG X tg g)(p:Kf X body tb)(hs:∀x,foldedSetIterable iter X.env x=pure x:=by intro _;rfl):PS X (.For tg iter body [] pos) (agV S g tb):=by
 intro c s R H D I h;refine wpAny_For (dG (hi c s R H _ I h) λv s1 h1=>dG h1 λa0 s2 h2=>?_) hs;obtain⟨it,C,U,J,H2,e,I2,T,G,f2,W,⟨m0,w0⟩,turn⟩:=h2;subst e;have l:∀{w:Hp},(∀b∈C,w b=none) -> ∀b∈C,rJ X c w b:=λhn b p=>⟨hn b p,(f2 b p).2⟩;refine codeAny_forLoop_any (λn s'=>∃i k w,Inv X c k w s'/\U i s'.heap/\(∀b∈C,w b=none)/\W i n k w) ?_ m0 ⟨0,R,H2,I2,G,λb p=>(f2 b p).1,w0⟩;rintro n Y ⟨i,j,E,I3,y,B,w3⟩;rcases turn i n j E w3 with ⟨stop,qn⟩|⟨go,N,hN,step⟩
 .refine wpAny_passesOwn A (dG (T.done X rfl rfl rfl hc i c Y j E X.xe I3 (l B) y stop) λr s4 ⟨L,I4⟩=>?_)
  subst L;exact wpAny_execs_nil ⟨j,E,I4,qn⟩
 .refine wpAny_passesOwn A (dG (T.item X rfl rfl rfl hc i c Y j E X.xe I3 (l B) y go) λr s4 ⟨u,L,h4⟩=>?_)
  subst L;refine wpAny_passesOwn A (dG h4 λ_ V M=>?_);obtain⟨x,H5,I5,r5,y5,P,O⟩:=M;have Q:=I5.pinned (l O) (T.obj _ _ P);refine wpAny_passesOwn A (dG (hg _ V j H5 x u _ Q r5 (step x H5 y5)) λ_ s6 M=>?_);obtain⟨F,H6,I6,q6⟩:=M;refine wpAny_passesOwn A (dG (p _ s6 F H6 _ I6 q6) λf K q7=>?_)
  have again:∀{a:St}{t:Hp},Inv X (c++Bp C V.heap) a t K->N a t -> ∃m,m<n /\ ∃i k w,Inv X c k w K/\U i K.heap/\(∀b∈C,w b=none)/\W i m k w:=fun {a t} q z=>by
   obtain⟨m',hm,w7⟩:=hN a t z;refine⟨m',hm,i+1,a,t,q.uL,T.keep _ _ _ P λb p o e=>(q.pin (b,o) (List.mem_append_right _ (List.mem_append_right _ (pB p e)))).1,λb p=>?_,w7⟩;obtain⟨o,e,d⟩:=T.obj _ _ P b p;exact(q.pin (b,o) (List.mem_append_right _ (List.mem_append_right _ (pB p e)))).2.1
  cases f with
  | next=>obtain⟨a,t,q,z⟩:=q7;exact again q z
  | cont=>obtain⟨a,t,q,z⟩:=q7;exact again q z
  | brk=>obtain⟨a,t,q,q7⟩:=q7;exact⟨a,t,q.uL,q7⟩
  | ret v=>obtain⟨x7,a,t,q,r7,q7⟩:=q7;exact⟨x7,a,t,q.uL,r7,q7⟩
theorem vP{g:TG}{D:Ends}(b:Nat->St->Hp->Prop)(o:b 0 σ H)(k:∀i σ H,i<=xs.length->b i σ H->bG K H a xs)(hs:∀i x σ H,xs[i]?=some x->b i σ H->g x σ H λc H2=>tb {D with nx:=b (i+1),ct:=b (i+1),bk:=D.nx} c H2)(n:∀σ H,b xs.length σ H->D.nx σ H):
 ∃W:Nat->Nat->St->Hp->Prop,(∃m,W 0 m σ H) /\ ∀i m σ H,W i m σ H ->
  ((ZR K a).stop i H/\D.nx σ H)\/((ZR K a).go i H /\ ∃N:St->Hp->Prop,(∀d H',N d H' -> ∃h,h<m/\W (i+1) h d H') /\ ∀x H',(ZR K a).yld i H x H'->g x σ H' λc H2=>tb {D with nx:=N,ct:=N,bk:=D.nx} c H2):=by
 refine⟨λi m σ H=>m=xs.length-i/\i<=xs.length/\b i σ H,⟨xs.length,by simp,Nat.zero_le _,o⟩,?_⟩;rintro i m σ H ⟨rfl,l,p⟩;have q:=k i σ H l p
 by_cases f:i<xs.length
 .refine .inr ⟨⟨xs,xs[i],q,by simp[f]⟩,b (i+1),λd H' j=>⟨xs.length-(i+1),by lia,Z,f,j⟩,λx H' y=>?_⟩
  obtain⟨e,y⟩:=y;subst e;exact hs i x σ _ (y xs q) p
 .have e:i=xs.length:=by lia
  subst e;exact .inl ⟨⟨xs,q,aaw _⟩,n σ H p⟩
theorem gD{lo:Int}{g:TG}{D:Ends}(d:Nat->St->Hp->Prop)(k:d 0 σ H)(hs:∀i σ H,i<n->d i σ H->g (.int (lo+i)) σ H λa H2=>tb {D with nx:=d (i+1),ct:=d (i+1),bk:=D.nx} a H2)(j:∀σ H,d n σ H->D.nx σ H):
 ∃W:Nat->Nat->St->Hp->Prop,(∃m,W 0 m σ H) /\ ∀i m σ H,W i m σ H ->
  ((Xc lo n).stop i H/\D.nx σ H)\/((Xc lo n).go i H /\ ∃N:St->Hp->Prop,(∀b H',N b H' -> ∃f,f<m/\W (i+1) f b H') /\ ∀x H',(Xc lo n).yld i H x H'->g x σ H' λa H2=>tb {D with nx:=N,ct:=N,bk:=D.nx} a H2):=by
 refine⟨λi m σ H=>m=n-i/\i<=n/\d i σ H,⟨n,by simp,Nat.zero_le _,k⟩,?_⟩;rintro i m σ H ⟨rfl,l,p⟩
 by_cases c:i<n
 .refine .inr ⟨c,d (i+1),λb H' h=>⟨n-(i+1),by lia,Z,c,h⟩,λx H' y=>?_⟩
  obtain⟨e,y⟩:=y;subst e y;exact hs i σ _ c p
 .have e:i=n:=by lia
  subst e;exact .inl ⟨aaw _,j σ H p⟩
abbrev R2:=V->V->Hp->VK->Prop
def sZ(X:Cx)(f:Value->Value->Sem Value)(r:R2):Prop:=
 ∀(pins:zzw)(s:Shared)(σ:St)(H:Hp)(x y:V)(v u:Value)(Q:VK),Inv X pins σ H s->RelV x v->RelV y u->r x y H Q ->
  wpAny (model X.prog X.w) X.A (f v u) (EP X pins σ Q) X.xe s
def UnR(X:Cx)(f:Value->Sem Value)(r:V->Hp->VK->Prop):Prop:=
 ∀(pins:zzw)(s:Shared)(σ:St)(H:Hp)(x:V)(v:Value)(Q:VK),Inv X pins σ H s->RelV x v->r x H Q ->
  wpAny (model X.prog X.w) X.A (f v) (EP X pins σ Q) X.xe s
def jt(X:Cx)(f:Value)(r:List V->Hp->VK->Prop):Prop:=
 ∀(pins:zzw)(s:Shared)(σ:St)(H:Hp)(xs:List V)(us:zzt)(Q:VK),Inv X pins σ H s->Vals xs us->r xs H Q ->
  wpAny (model X.prog X.w) X.A (call f us) (EP X pins σ Q) X.xe s
def ajf(X:Cx)(r:V->Hp->(Bool->Hp->Prop)->Prop):Prop:=
 ∀(pins:zzw)(s:Shared)(σ:St)(H:Hp)(x:V)(v:Value)(Q:Bool->Hp->Prop),Inv X pins σ H s->RelV x v->r x H Q ->
  wpAny (model X.prog X.w) X.A (truthy v) (TP X pins σ Q) X.xe s
def CJ(r:R2)(b a:TE):TE:=λσ H Q=>b σ H λx H1=>a σ H1 λy H2=>r x y H2 Q
def tUn(r:V->Hp->VK->Prop)(a:TE):TE:=λσ H Q=>a σ H λx H1=>r x H1 Q
inductive rI(C:Int->Int->Prop)(g:Int->Int->V)(x y:V)(H:Hp)(Q:VK):Prop|m:∀i j,x=.int i->y=.int j->C i j->Q (g i j) H->rI C g x y H Q
inductive Yi(g:Int->Int->V)(x y:V)(H:Hp)(Q:VK):Prop|m:∀i j,x=.int i->y=.int j->Q (g i j) H->Yi g x y H Q
inductive rU(g:Int->V)(x:V)(H:Hp)(Q:VK):Prop|m:∀i,x=.int i->Q (g i) H->rU g x H Q
section
variable{a b:Expr}{tb tc:TE}
theorem acA(n:PE X a ta)(m:PE X b tb){R:V->V->Hp->Prop}(I:Inv X pins σ H s)(h:ta σ H λx H1=>tb σ H1 λy H2=>R x y H2){f:Value->Value->Sem Value}(l:∀v u e x y H2,Inv X pins σ H2 e->RelV x v->RelV y u->R x y H2->wpAny (model X.prog X.w) X.A (f v u) Q X.xe e):
 wpAny (model X.prog X.w) X.A (eval a X.env) (λv d=>wpAny (model X.prog X.w) X.A (eval b X.env) (λu c=>wpAny (model X.prog X.w) X.A (f v u) Q X.xe c) X.xe d) X.xe s:=by
 refine dG (n pins s σ H _ I h) λv i g=>?_;obtain⟨x,H1,p,k,q1⟩:=g;refine dG (m pins i σ H1 _ p q1) λu e g=>?_;obtain⟨y,H2,o,j,q2⟩:=g;exact l v u e x y H2 o k j q2
theorem bY{r:R2}(i:sZ X (binaryOp op) r)(k:PE X a ta)(j:PE X b tb):PE X (.BinOp a op b pos) (CJ r ta tb):=by
 intro c s d H Q I h;exact wpAny_BinOp (acA k j I h λv u e x y H2 l g f q=>i c e d H2 x y v u Q l g f q)
theorem Us{op:UnaryOp}{r:V->Hp->VK->Prop}(f:UnR X (unaryOp op) r)(g:PE X a ta):PE X (.UnaryOp op a pos) (tUn r ta):=by
 intro b s c H Q I h;exact UnaryOp_ (dG (g b s c H _ I h) λv d ⟨x,H1,i,e,q1⟩=>f b d c H1 x v Q i e q1)
theorem opI{f:Value->Value->Sem Value}{C:Int->Int->Prop}{g:Int->Int->Int}(rule:∀(i j:Int)(t u:Tok)(s:Shared)(Q:zzx)(E:zzx),C i j->Q (.int (g i j) s.toks) {s with toks:=s.toks+1}->wpAny (model X.prog X.w) X.A (f (.int i t) (.int j u)) Q E s):
 sZ X f (rI C λi j=> .int (g i j)):=by
 intro a s k H x y v u Q I d c h;obtain⟨i,j,rfl,rfl,e,q⟩:=h;obtain⟨t,rfl⟩:=d;obtain⟨b,rfl⟩:=c;exact rule i j t b s _ _ e ⟨.int (g i j),H,I.tok _,⟨_,Z⟩,q⟩
theorem ad'{f:Value->Value->Sem Value}{g:Int->Int->Int}(rule:∀(i j:Int)(t u:Tok)(s:Shared)(Q:zzx)(E:zzx),Q (.int (g i j) s.toks) {s with toks:=s.toks+1}->wpAny (model X.prog X.w) X.A (f (.int i t) (.int j u)) Q E s):
 sZ X f (Yi λi j=> .int (g i j)):=by
 intro a s e H x y v u Q I d c h;obtain⟨i,j,rfl,rfl,q⟩:=h;obtain⟨t,rfl⟩:=d;obtain⟨b,rfl⟩:=c;exact rule i j t b s _ _ ⟨.int (g i j),H,I.tok _,⟨_,Z⟩,q⟩
theorem Yx{f:Value->Value->Sem Value}{g:Int->Int->Bool}(rule:∀(i j:Int)(t u:Tok)(s:Shared)(Q:zzx)(E:zzx),Q (.bool (g i j)) s->wpAny (model X.prog X.w) X.A (f (.int i t) (.int j u)) Q E s):
 sZ X f (Yi λi j=> .bl (g i j)):=by
 intro a s e H x y v u Q I d c h;obtain⟨i,j,rfl,rfl,q⟩:=h;obtain⟨t,rfl⟩:=d;obtain⟨b,rfl⟩:=c;exact rule i j t b s _ _ ⟨.bl (g i j),H,I,Z,q⟩
def Ko(i j:Int):Prop:=0<=j/\j<=1000000/\i.natAbs<2 ^ 64
def acR(i j:Int):Prop:=(-(2 ^ 64)<i/\i<2 ^ 64)\/(-(2 ^ 64)<j/\j<2 ^ 64)
theorem acR.ok{i j:Int}(h:acR i j):IntMulOk i j:=by
 rcases h with ⟨b,a⟩|⟨b,a⟩
 .exact .of_left (intBits_le_64 b a)
 .exact .of_right (intBits_le_64 b a)
theorem iR:sZ X (binaryOp .Add) (Yi λi j=> .int (i+j)):=ad' λ_ _ _ _ _ _ _ q=>add_int q
theorem uf:sZ X (binaryOp .Sub) (Yi λi j=> .int (i-j)):=ad' λ_ _ _ _ _ _ _ q=>sub_int q
theorem Gp:sZ X (binaryOp .Mult) (rI acR λi j=> .int (i*j)):=opI λ_ _ _ _ _ _ _ a q=>mul_int q a.ok
theorem pA:sZ X (binaryOp .Mod) (rI (λ_ j=>0<j) λi j=> .int (i % j)):=opI λi j _ _ _ _ _ a q=>by
 have b:(0:Int)<j:=a;exact mod_int' (by lia) (by rw[Int.fmod_eq_emod_of_nonneg i (by lia)];exact q)
theorem qN:sZ X (binaryOp .Pow) (rI Ko λi j=> .int (i ^ j.toNat)):=opI λ_ _ _ _ _ _ _ a q=>pow_int_small a.1 a.2.1 a.2.2 q
theorem unI{f:Value->Sem Value}{g:Int->Int}(rule:∀(i:Int)(t:Tok)(s:Shared)(Q:zzx)(E:zzx),Q (.int (g i) s.toks) {s with toks:=s.toks+1}->wpAny (model X.prog X.w) X.A (f (.int i t)) Q E s):
 UnR X f (rU λi=> .int (g i)):=by
 intro a s c H x v Q I b h;obtain⟨i,rfl,q⟩:=h;obtain⟨t,rfl⟩:=b;exact rule i t s _ _ ⟨.int (g i),H,I.tok _,⟨_,Z⟩,q⟩
theorem Ku:UnR X (unaryOp .USub) (rU λi=> .int (-i)):=unI λ_ _ _ _ _ q=>neg_int q
end
def adW:V->V->Bool
 | .non,.non=>true | .non,.int _=>true | .int _,.non=>true | .non,.bl _=>true | .bl _,.non=>true | .non,.str _=>true | .str _,.non=>true
 | .int _,.int _=>true | .bl _,.bl _=>true | .str _,.str _=>true | .Mi _,.Mi _=>true
 | .int _,.str _=>true | .str _,.int _=>true | .bl _,.str _=>true | .str _,.bl _=>true
 | _,_=>false
def rEq:R2:=λx y H Q=>adW x y=true/\Q (.bl (decide (x=y))) H
def rNe:R2:=λx y H Q=>adW x y=true/\Q (.bl (!decide (x=y))) H
theorem O9{i j:Int}:decide (V.int i=V.int j)=(i==j):=by
 rw[Bool.eq_iff_iff];simp
theorem Wk{i j:Bool}:decide (V.bl i=V.bl j)=(i==j):=by
 rw[Bool.eq_iff_iff];simp
theorem O8{i j:Str}:decide (V.str i=V.str j)=(i==j):=by
 rw[Bool.eq_iff_iff];simp
theorem O_{i j:Array UInt8}:decide (V.Mi i=V.Mi j)=(i.toList==j.toList):=by
 rw[Bool.eq_iff_iff];cases i;cases j;simp
section
variable{a b:Expr}{tb tc:TE}
theorem cM{Q:VK}{k a:Bool}(I:Inv X pins σ H s)(q:Q (.bl k) H)(e:k=a):EP X pins σ Q (.bool a) s:=by
 subst e;exact⟨.bl k,H,I,Z,q⟩
theorem eV:sZ X (compareOp .Eq) rEq:=by
 intro e s f H x y v u Q I d a h;obtain⟨c,q⟩:=h;cases x with
 | non=>
   cases d;cases y with
   | non=>cases a;exact PySem.EqNone.eq_none_none (cM I q (by simp))
   | bl j=>cases a;exact PySem.EqNone.eq_none_bool (cM I q (by simp))
   | int j=>obtain⟨b,rfl⟩:=a;exact PySem.EqNone.eq_none_int (cM I q (by simp))
   | str j=>obtain⟨b,rfl⟩:=a;exact PySem.EqNone.eq_none_str (cM I q (by simp))
   | _=>exact ac' (show false=true from c) aaV
 | bl i=>
   cases d;cases y with
   | non=>cases a;exact PySem.EqNone.eq_bool_none (cM I q (by simp))
   | bl j=>cases a;exact eq_bool (cM I q Wk)
   | str j=>obtain⟨b,rfl⟩:=a;exact PySem.EqMixed.eq_bool_str (cM I q (by simp))
   | _=>exact ac' (show false=true from c) aaV
 | int i=>
   obtain⟨t,rfl⟩:=d;cases y with
   | non=>cases a;exact PySem.EqNone.eq_int_none (cM I q (by simp))
   | int j=>obtain⟨b,rfl⟩:=a;exact eq_int (cM I q O9)
   | str j=>obtain⟨b,rfl⟩:=a;exact PySem.EqMixed.eq_int_str (cM I q (by simp))
   | _=>exact ac' (show false=true from c) aaV
 | str i=>
   obtain⟨t,rfl⟩:=d;cases y with
   | non=>cases a;exact PySem.EqNone.eq_str_none (cM I q (by simp))
   | bl j=>cases a;exact PySem.EqMixed.eq_str_bool (cM I q (by simp))
   | int j=>obtain⟨b,rfl⟩:=a;exact PySem.EqMixed.eq_str_int (cM I q (by simp))
   | str j=>obtain⟨b,rfl⟩:=a;exact eq_str (cM I q O8)
   | _=>exact ac' (show false=true from c) aaV
 | Mi i=>
   obtain⟨t,rfl⟩:=d;cases y with
   | Mi j=>obtain⟨b,rfl⟩:=a;exact W.eq_bytes (cM I q O_)
   | _=>exact ac' (show false=true from c) aaV
 | _=>cases y<;>exact ac' (show false=true from c) aaV
theorem pP:sZ X (compareOp .NotEq) rNe:=by
 intro e s f H x y v u Q I d a h;obtain⟨c,q⟩:=h;cases x with
 | non=>
   cases d;cases y with
   | non=>cases a;exact PySem.EqNone.ne_none_none (cM I q (by simp))
   | bl j=>cases a;exact PySem.EqNone.ne_none_bool (cM I q (by simp))
   | int j=>obtain⟨b,rfl⟩:=a;exact PySem.EqNone.ne_none_int (cM I q (by simp))
   | str j=>obtain⟨b,rfl⟩:=a;exact PySem.EqNone.ne_none_str (cM I q (by simp))
   | _=>exact ac' (show false=true from c) aaV
 | bl i=>
   cases d;cases y with
   | non=>cases a;exact PySem.EqNone.ne_bool_none (cM I q (by simp))
   | bl j=>cases a;exact ne_bool (cM I q (congrArg not Wk))
   | str j=>obtain⟨b,rfl⟩:=a;exact PySem.EqMixed.ne_bool_str (cM I q (by simp))
   | _=>exact ac' (show false=true from c) aaV
 | int i=>
   obtain⟨t,rfl⟩:=d;cases y with
   | non=>cases a;exact PySem.EqNone.ne_int_none (cM I q (by simp))
   | int j=>obtain⟨b,rfl⟩:=a;exact ne_int (cM I q (congrArg not O9))
   | str j=>obtain⟨b,rfl⟩:=a;exact PySem.EqMixed.ne_int_str (cM I q (by simp))
   | _=>exact ac' (show false=true from c) aaV
 | str i=>
   obtain⟨t,rfl⟩:=d;cases y with
   | non=>cases a;exact PySem.EqNone.ne_str_none (cM I q (by simp))
   | bl j=>cases a;exact PySem.EqMixed.ne_str_bool (cM I q (by simp))
   | int j=>obtain⟨b,rfl⟩:=a;exact PySem.EqMixed.ne_str_int (cM I q (by simp))
   | str j=>obtain⟨b,rfl⟩:=a;exact ne_str (cM I q (congrArg not O8))
   | _=>exact ac' (show false=true from c) aaV
 | Mi i=>
   obtain⟨t,rfl⟩:=d;cases y with
   | Mi j=>obtain⟨b,rfl⟩:=a;exact W.ne_bytes (cM I q (congrArg not O_))
   | _=>exact ac' (show false=true from c) aaV
 | _=>cases y<;>exact ac' (show false=true from c) aaV
theorem ou:sZ X (compareOp .Lt) (Yi λi j=> .bl (decide (i<j))):=Yx λ_ _ _ _ _ _ _ q=>lt_int q
theorem aag:sZ X (compareOp .LtE) (Yi λi j=> .bl (decide (i<=j))):=Yx λ_ _ _ _ _ _ _ q=>le_int q
theorem aah:sZ X (compareOp .Gt) (Yi λi j=> .bl (decide (j<i))):=Yx λ_ _ _ _ _ _ _ q=>gt_int q
theorem aai:sZ X (compareOp .GtE) (Yi λi j=> .bl (decide (j<=i))):=Yx λ_ _ _ _ _ _ _ q=>ge_int q
theorem Gq:sZ X (compareOp .Is) (λx y H Q=>y=.non/\Q (.bl (decide (x=.non))) H):=by
 intro b s d H x y v u Q I a c h;obtain⟨rfl,q⟩:=h;cases c;refine is_none_gen (cM I q ?_)
 cases x<;>first
  | (cases a;rfl)
  | (obtain⟨t,rfl⟩:=a;rfl)
theorem Og:sZ X (compareOp .IsNot) (λx y H Q=>y=.non/\Q (.bl (!decide (x=.non))) H):=by
 intro b s d H x y v u Q I a c h;obtain⟨rfl,q⟩:=h;cases c;refine isnot_none_gen (cM I q ?_)
 cases x<;>first
  | (cases a;rfl)
  | (obtain⟨t,rfl⟩:=a;rfl)
def isObj:HO->Bool
 | .lst _=>true
 | .ins _ _ _=>true
 | _=>false
theorem bA(b:Expr){op:CmpOp}(h:op ≠ .In:=by decide)(a:op ≠ .NotIn:=by decide):behindInMarks op b=false:=by
 have d:(op==CmpOp.In)=false:=by cases op<;>first |rfl|exact ac' rfl h
 have c:(op==CmpOp.NotIn)=false:=by cases op<;>first |rfl|exact ac' rfl a
 cases b<;>simp[behindInMarks,d,c]
theorem cZ{op:CmpOp}{r:R2}(i:sZ X (compareOp op) r)(l:PE X a ta)(k:PE X b tb)(j:behindInMarks op b=false):PE X (.Compare a [op] [b] pos) (CJ r ta tb):=by
 intro c s d H Q I h;exact wpAny_Compare1 (acA l k I h λv u e x y H2 m g f q=>i c e d H2 x y v u Q m g f q) j
inductive Nk(Q:Bool->Hp->Prop)(x:V)(H':Hp):Prop|m:∀k,x=.bl k->Q k H'->Nk Q x H'
def S6(t:TE):TT:=λσ H Q=>t σ H λx H'=>Nk Q x H'
theorem bD{op:CmpOp}{r:R2}(n:sZ X (compareOp op) r)(q:PE X a ta)(p:PE X b tb)(o:behindInMarks op b=false):PT X (.Compare a [op] [b] pos) (S6 (CJ r ta tb)):=by
 intro d s f H Q I h
 refine wpAny_isTrue_Compare1 (dG (q d s f H _ I h) λv i ⟨x,H1,A,m,q1⟩=>dG (p d i f H1 _ A q1) λu g ⟨y,H2,w,l,q2⟩=>
  dG (n d g f H2 x y v u _ w m l q2) λc C ⟨z,B,t,j,k,e,q3⟩=>?_) o
 subst e;cases j;exact wpAny_truthy_bool ⟨B,t,q3⟩
def aa5(r f:R2)(e d c:TE):TE:=λσ H Q=>e σ H λx H1=>d σ H1 λy H2=>r x y H2 λz a=>∃k,z=.bl k /\
 (if k=true then c σ a λb g=>f y b g Q else Q (.bl false) a)
theorem UG{op g:CmpOp}{r m:R2}(F:sZ X (compareOp op) r)(j:sZ X (compareOp g) m)(L:PE X a ta)(K:PE X b tb)(J:PE X c tc)(G:lastMarks [op,g] [b,c]=false:=by with_unfolding_all rfl):PE X (.Compare a [op,g] [b,c] pos) (aa5 r m ta tb tc):=by
 intro f s i H Q I h
 refine Compare_chain (dG (L f s i H _ I h) λv B ⟨x,H1,O,E,q1⟩=>chain_link (dG (K f B i H1 _ O q1) λu A ⟨y,H2,N,l,q2⟩=>
  dG (F f A i H2 x y v u _ N E l q2) λd w ⟨z,o,n,D,k,e,q3⟩=>?_)) G
 subst e;cases D;refine wpAny_truthy_bool ?_;cases k with
 | false=>exact ite_ff ⟨.bl false,o,n,Z,q3⟩
 | true=>exact ite_tt (chain_last (dG (J f w i o _ n q3) λq t ⟨p,P,M,C,q4⟩=>j f t i P y p u q Q M l C q4))
def acD(K:zzy)(x:V)(H:Hp)(k:Bool):Prop:=
 match x with
 | .non=>k=false
 | .bl b=>k=b
 | .int i=>k=(i != 0)
 | .str y=>y.length<=sizeLine/\k=((y.length:Int) != 0)
 | .Mi y=>y.size<=sizeLine/\k=((y.size:Int) != 0)
 | .ref p=>(∃xs,bG K H p xs/\k = !xs.isEmpty)\/(∃xs,cD K H p xs/\k = !xs.isEmpty) \/ ∃kvs,H p=some (.dK kvs)/\k = !kvs.isEmpty
 | _=>False
theorem Lr{κ:Type}{a:List (κ×V)}{vs:List (κ×Value)}(r:KV a vs):(!vs.isEmpty) = !a.isEmpty:=by
 cases r<;>rfl
theorem BL(r:Vals xs its):(!its.toArray.isEmpty) = !xs.isEmpty:=by
 cases r<;>simp
theorem uh:(sizeLine:Nat)<2 ^ 63:=by rw[sizeLine_eq];decide
theorem aaS:ajf X (λx H Q=>∃k,acD X.K x H k/\Q k H):=by
 intro u s B H x v Q I g h;obtain⟨k,e,q⟩:=h;have D:=uh;have C:sizeLine=16777216:=sizeLine_eq;cases x with
 | non=>
   cases g;have a:k=false:=e;subst a;exact truthy_none ⟨H,I,q⟩
 | bl b=>
   cases g;have a:k=b:=e;subst a;exact wpAny_truthy_bool ⟨H,I,q⟩
 | int i=>
   obtain⟨t,rfl⟩:=g;have a:k=(i != 0):=e;subst a;exact PySem.P.truthy_int ⟨H,I,q⟩
 | str y=>
   obtain⟨t,rfl⟩:=g;obtain⟨z,a⟩:y.length<=sizeLine/\k=((y.length:Int) != 0):=e;subst a;exact PySem.P.truthy_str (by lia) ⟨H,I.tok _,q⟩
 | Mi y=>
   obtain⟨t,rfl⟩:=g;obtain⟨z,a⟩:y.size<=sizeLine/\k=((y.size:Int) != 0):=e;subst a;exact W.truthy_bytes (by lia) ⟨H,I.tok _,q⟩
 | ref p=>
   cases g;have a:(∃f,bG X.K H p f/\k = !f.isEmpty)\/(∃f,cD X.K H p f/\k = !f.isEmpty) \/ ∃c,H p=some (.dK c)/\k = !c.isEmpty:=e;rcases a with ⟨f,j,a⟩|⟨f,j,a⟩|⟨c,j,a⟩
   .subst a
    obtain⟨o,r,n,w⟩:=I.list j;have d:=r.length;exact wpAny_truthy_list n.isList (by simp only[aa8];lia) ⟨H,I.tok _,by rw[BL r];exact q⟩
   .subst a
    obtain⟨o,r,n,w⟩:=I.tuple j;have d:=r.length;exact truthy_tuple n (by simp only[aa8];lia) ⟨H,I.tok _,by rw[BL r];exact q⟩
   .subst a
    obtain⟨w,A,l,r,m⟩:c.length<=sizeLine/\(p==sysModules)=false /\ ∃l,KV c l/\s.heap.DictOf (fW X.prog X.w) p l:=I.hok p _ j;have d:c.length=l.length:=Paired.length r;exact wpAny_truthy_dict A m (by lia) ⟨H,I.tok _,by rw[Lr r];exact q⟩
 | _=>exact(show False from e).elim
theorem Ui(e:PE X a ta)(he:∀whole,isTrue a X.env whole=(do let v ←whole;standAt a.pos;holding [v] (truthy v))):
 PT X a (λσ H Q=>ta σ H λx H'=>∃k,acD X.K x H' k/\Q k H'):=by
 intro b s σ H Q I h;exact isTrue_plain (dG (e b s σ H _ I h) λv c ⟨x,H1,f,d,q1⟩=>aaS b c σ H1 x v Q f d q1) (he _)
theorem vals1{x:V}(r:Vals [x] us):∃u,us=[u]/\RelV x u:=by
 cases r with
 | cons b a=>cases a;exact⟨_,Z,b⟩
theorem vals2{x:V}(r:Vals [x,y] us):∃u a,us=[u,a]/\RelV x u/\RelV y a:=by
 cases r with
 | cons e d=>
   cases d with
   | cons c b=>cases b;exact⟨_,_,Z,e,c⟩
theorem Rq(c:X.calm=true):jt X (.builtin "max") (λxs H Q=>∃i j,xs=[.int i,.int j]/\Q (.int (if j>i then j else i)) H):=by
 intro b s d H xs f Q I r h;obtain⟨i,j,rfl,q⟩:=h;obtain⟨u,e,rfl,⟨t,rfl⟩,⟨l,rfl⟩⟩:=vals2 r;refine max_two_ints (I.ok.hd c) λm g k=>⟨_,H,I.kept k,?_,q⟩
 by_cases a:j>i
 .rw[ac_ a,ac_ a];exact⟨_,Z⟩
 .rw[ac9 a,ac9 a];exact⟨_,Z⟩
theorem Es(c:X.calm=true):jt X (.builtin "min") (λxs H Q=>∃i j,xs=[.int i,.int j]/\Q (.int (if j<i then j else i)) H):=by
 intro b s d H xs f Q I r h;obtain⟨i,j,rfl,q⟩:=h;obtain⟨u,e,rfl,⟨t,rfl⟩,⟨l,rfl⟩⟩:=vals2 r;refine min_two_ints (I.ok.hd c) λm g k=>⟨_,H,I.kept k,?_,q⟩
 by_cases a:j<i
 .rw[ac_ a,ac_ a];exact⟨_,Z⟩
 .rw[ac9 a,ac9 a];exact⟨_,Z⟩
theorem yc:jt X (.type "int") (λxs H Q=>(∃i,xs=[.int i]/\Q (.int i) H) \/ ∃k,xs=[.bl k]/\Q (.int (if k then 1 else 0)) H):=by
 intro a s c H xs d Q I r h;rcases h with ⟨i,rfl,q⟩|⟨k,rfl,q⟩
 .obtain⟨u,rfl,t,rfl⟩:=vals1 r
  exact call_int_int ⟨.int i,H,I,⟨_,Z⟩,q⟩
 .obtain⟨u,rfl,b⟩:=vals1 r
  cases b;exact call_int_bool ⟨.int (if k then 1 else 0),H,I.tok _,⟨_,Z⟩,q⟩
end
structure Mt(h:Heap)(x dx C:Addr)(mA:zzv):Prop where
 obj:h.get? x=some (W.instObj C dx)
 ns:h.Ns1 dx mA
 ne:dx≠x
theorem Ea{h:Heap}{d:Addr}(n:h.Ns1 d mA):∃od,h.get? d=some od /\ ∀name,W.lookIn name od=some (mA name):=by
 obtain⟨o,c,m,g,k,j,_,i⟩:=n;refine⟨o,g,λname=>?_⟩;have e:=i name;unfold nsFind findBy at e;rw[←Array.find?_toList] at e;unfold W.lookIn;rw[k];dsimp only;split
 .rename_i y q
  rw[q] at e;exact congrArg some e
 .rename_i q
  rw[q] at e
  have a:c.toList.any (·.refKey)=false:=by
   rw[List.any_eq_false];intro y f;obtain⟨z,t,b⟩:=j y (Array.mem_toList_iff.mp f);simp[DictEntry.refKey,b]
  have l:¬c.toList.any (·.refKey)=true:=by rw[a];exact aaV
  rw[ac9 l];exact congrArg some e
theorem Mt.look{h:Heap}{x a:Addr}(I:Mt h x a C mA):∃od,W.InstAt h x (W.instObj C a) C (some od) /\ ∀name,W.lookIn name od=some (mA name):=
 let ⟨od,b,c⟩:=Ea I.ns
 ⟨od,⟨I.obj,Z,Z,b⟩,c⟩
section
variable{prog:Program}{x dx:Addr}{v:Value}
theorem get_map(X:K.In s.heap)(I:Mt s.heap x dx C mA)(e:W.plainGet K C name=true)(d:W.hasDictIn K C=true)(f:W.findIn K (.ref C) name=some none)(b:mA name=some v)(a:W.handedIn v=true)(h:Q v {s with toks:=s.toks+1}):
 wpAny (model prog w) A (getAttr (.ref x) name expr) Q E s:=by
 obtain⟨g,J,c⟩:=I.look;exact W.get_value X J (W.plainGet_of e).1 (W.findObj_own d f rfl (by rw[c,b])) a h
theorem V3{pl:Sem Bool}{Q:Value×List Value->Shared->Prop}(X:K.In s.heap)(I:Mt s.heap x dx C mA)(a:W.plainGet K C name=true)(g:W.findIn K (.ref C) name=some (some (.ref f)))(d:W.isFn K (.ref f)=true)(c:mA name=none)(h:Q (.ref f,[.ref x]) s):
 wpAny (model prog w) A (getMethod (.ref x) name pl) Q E s:=by
 obtain⟨b,J,e⟩:=I.look;exact W.method_fn X J (W.plainGet_of a).1 (W.plainGet_of a).2 g (beq_iff_eq.mp d) (by show (W.lookIn name b).map (·.isSome)=some false;rw[e,c];rfl) h
theorem XR{ns:List Str}{Q:zzu}(X:K.In s.heap)(I:Mt s.heap x dx C mA)(hs:W.findIn K (.ref C) "__setattr__" = some (some (.builtin "object.__setattr__")))(m:W.plainOver K C=true)(k:W.takerIn K C name=some none)(n:W.hasDictIn K C=true)(hw:PySem.Within mA ns)(l:ns.length<=sizeLine)(h:∀h',Mt h' x dx C (λy=>if y=name then some v else mA y)->Heap.SameBut dx s.heap h'->Q () {s with heap:=h',toks:=s.toks+2}):
 wpAny (model prog w) A (setAttr (.ref x) name v) Q E s:=by
 obtain⟨t,J,u⟩:=I.look;refine W.set_plain X J hs (W.osa_open (s:={s with toks:=s.toks+1}) (r:=none) X J m k λb=>?_);obtain⟨cd,o,g⟩:=W.any_some n;have j:s.heap.get? x=some ⟨.ref C,some dx,.plain, #[]⟩:=I.obj;refine aax (aay (aax (aax (wpAny_loadPart j (aax (W.Looks.here (s:={s with toks:=s.toks+1}) (W.looks_clsIn X o) ?_))))));rw[g];refine aay (a:=some dx) (aax (aay (aax ?_)));refine wpAny_nsSet1 (s:={s with toks:=s.toks+1}) I.ns λh' d c=>?_;obtain⟨oD,p,q,e,f,i⟩:=d.count (PySem.Within.cons name v hw);refine aax (wpAny_lookBehind e (by rw[f];exact pastItsLine_dict (ac5 i (by rw[ac1];lia))) ?_);exact aay (h _ ⟨(c.2 _ (Ne.symm I.ne)).trans I.obj,d,I.ne⟩ c)
theorem Vu{R:Result->Shared->Prop}{vs:zzt}(X:K.In s.heap)(a:W.makesIn K C=true)(hi:W.findIn K (.ref C) "__init__" = some (some (.ref f)))(b:W.typeIn K (.ref f)=some (.type "function"))(h:codeAny (model prog w) (A.under (.builtin "type.__call__" ⟨.ref C::vs,kw⟩)) (.call (.ref f) ⟨.ref (s.heap.objs.size+1)::vs,kw⟩) (W.InitBack (s.heap.objs.size+1) R)
   {s with heap:=(s.heap.push W.emptyDict).push (W.instObj C s.heap.objs.size)}):
 codeAny (model prog w) A (.call (.ref C) ⟨vs,kw⟩) R s:=by
 obtain⟨c,g,d,t,os⟩:=s;exact W.make_core (W.makes_of X a) (W.looks_findIn X hi) (λself=>W.bind_fn X self b) (.inl rfl) h
end
def cI(f:Str)(v:V):List (Str×V)->List (Str×V)
 | []=>[(f,v)]
 | (g,x)::r=>if g=f then (g,v)::r else (g,x)::cI f v r
theorem yu(f g:Str)(v:V):∀c:List (Str×V),(cI f v c).lookup g=if g=f then some v else c.lookup g
 | []=>by
   show List.lookup g [(f,v)]=_
   by_cases h:g=f
   .have a:(g==f)=true:=beq_iff_eq.mpr h
    simp only[List.lookup,a,ac_ h]
   .have a:(g==f)=false:=beq_eq_false_iff_ne.mpr h
    simp only[List.lookup,a,ac9 h]
 | (k,x)::r=>by
   have d:=yu f g v r;rw[show cI f v ((k,x)::r)=(if k=f then (k,v)::r else (k,x)::cI f v r) from rfl]
   by_cases b:k=f
   .rw[ac_ b]
    by_cases h:g=k
    .have a:(g==k)=true:=beq_iff_eq.mpr h
     simp only[List.lookup,a,ac_ (h.trans b)]
    .have a:(g==k)=false:=beq_eq_false_iff_ne.mpr h
     simp only[List.lookup,a,ac9 (λe:g=f=>h (e.trans b.symm))]
   .rw[ac9 b]
    by_cases h:g=k
    .have a:(g==k)=true:=beq_iff_eq.mpr h
     simp only[List.lookup,a,ac9 (λe:g=f=>b (h.symm.trans e))]
    .have a:(g==k)=false:=beq_eq_false_iff_ne.mpr h
     simp only[List.lookup,a];exact d
theorem xR(f:Str)(v:V):∀b:List (Str×V),f∈(cI f v b).map (·.1) /\ ∀g,g∈b.map (·.1)->g∈(cI f v b).map (·.1)
 | []=>⟨by simp[cI],λg h=>by simp at h⟩
 | (k,x)::r=>by
   obtain⟨d,c⟩:=xR f v r;rw[show cI f v ((k,x)::r)=(if k=f then (k,v)::r else (k,x)::cI f v r) from rfl]
   by_cases a:k=f
   .rw[ac_ a]
    subst a;exact⟨by simp,λg h=>by simpa using h⟩
   .rw[ac9 a]
    refine⟨?_,λg h=>?_⟩
    .rw[List.map_cons]
     exact acq _ d
    .rw[List.map_cons] at h ⊢
     rcases List.mem_cons.mp h with e|e
     .exact List.mem_cons.mpr (.inl e)
     .exact acq _ (c g e)
theorem yx(f:Str)(v:V):∀b:List (Str×V),(cI f v b).length<=b.length+1
 | []=>by simp[cI]
 | (k,x)::r=>by
   have c:=yx f v r;rw[show cI f v ((k,x)::r)=(if k=f then (k,v)::r else (k,x)::cI f v r) from rfl]
   by_cases a:k=f
   .rw[ac_ a,ac1,ac1];lia
   .rw[ac9 a,ac1,ac1];lia
theorem nP.some_of{o:Option Value}(r:nP (some v) o):∃u,o=some u/\RelV v u:=by
 cases o with
 | none=>exact(show False from r).elim
 | some u=>exact⟨u,Z,r⟩
theorem nP.none_of{o:Option Value}(r:nP none o):o=none:=by
 cases o with
 | none=>rfl
 | some u=>exact(show False from r).elim
theorem Eh(r:RelV v u):W.handedIn u=true:=by
 cases v with
 | non=>cases (show u=Value.none from r);rfl
 | bl b=>cases (show u=Value.bool b from r);rfl
 | int i=>obtain⟨t,e⟩:=(show ∃t,u=Value.int i t from r);cases e;rfl
 | str x=>obtain⟨t,e⟩:=(show ∃t,u=Value.str x t from r);cases e;rfl
 | Mi b=>obtain⟨t,e⟩:=(show ∃t,u=Value.bytes b t from r);cases e;rfl
 | flt b=>obtain⟨t,e⟩:=(show ∃t,u=Value.float b t from r);cases e;rfl
 | ref a=>cases (show u=Value.ref a from r);rfl
 | ty n=>cases (show u=Value.type n from r);rfl
section
variable{h:Heap}{dx:Addr}{fs fs':List (Str×V)}
theorem pH(b:sX P w H h)(e:H a=some (.ins C dx fs)):∃mA,Mt h a dx C mA/\(∀f,nP (fs.lookup f) (mA f))/\PySem.Within mA (fs.map (·.1))/\fs.length<=1000/\H dx=some (.own a):=by
 obtain⟨d,z,ne,c,mA,n,r,q⟩:=(show dM P w H h a (.ins C dx fs) from b a _ e);exact⟨mA,⟨c,n,ne⟩,r,q,z,d⟩
end
structure Cls(K:zzy)(C:Addr):Prop where
 pg:W.plainGet K C Str.empty=true
 hd:W.hasDictIn K C=true
 po:W.plainOver K C=true
 sa:W.findIn K (.ref C) "__setattr__" = some (some (.builtin "object.__setattr__"))
theorem Cls.get(c:Cls K C)(f:Str):W.plainGet K C f=true:=c.pg
def eX(K:zzy)(C:Addr)(f:Str):Prop:=W.findIn K (.ref C) f=some none
theorem eX.taker{f:Str}(n:eX K C f):W.takerIn K C f=some none:=by
 unfold W.takerIn;rw[show W.findIn K (.ref C) f=some none from n];rfl
structure Meth(K:zzy)(C:Addr)(m:Str)(f:Addr):Prop where
 at_:W.findIn K (.ref C) m=some (some (.ref f))
 fn:W.isFn K (.ref f)=true
 kp:W.keepIn K (.ref f)=true
section
variable{dx:Addr}{fs:List (Str×V)}{f:Str}
theorem BX{b:Bool}(I:Inv X pins σ H s)(e:H a=some (.ins C dx fs))(c:Cls X.K C)(n:eX X.K C f)(l:fs.lookup f=some v)(h:∀u s',Inv X pins σ H s'->RelV v u->Q u s'):wpAny (model X.prog X.w) A (getAttr (.ref a) f b) Q E s:=by
 obtain⟨g,O,r,_,_,_⟩:=pH I.hok e;obtain⟨u,i,d⟩:=nP.some_of (v:=v) (o:=g f) (by rw[←l];exact r f);exact get_map I.oH O (c.get f) c.hd n i (Eh d) (h u _ (I.tok _) d)
theorem uq{m:Str}{g:Addr}{pl:Sem Bool}{Q:Value×List Value->Shared->Prop}(I:Inv X pins σ H s)(e:H a=some (.ins C dx fs))(c:Cls X.K C)(k:Meth X.K C m g)(l:fs.lookup m=none)(h:Q (.ref g,[.ref a]) s):wpAny (model X.prog X.w) A (getMethod (.ref a) m pl) Q E s:=by
 obtain⟨b,O,r,_,_,_⟩:=pH I.hok e;have d:b m=none:=nP.none_of (by rw[←l];exact r m);exact V3 I.oH O (c.get m) k.at_ k.fn d h
theorem Al{Q:zzu}(I:Inv X pins σ H s)(e:H a=some (.ins C dx fs))(c:Cls X.K C)(n:eX X.K C f)(F:fs.length<1000)(m:RelV y u)(h:∀s',Inv X pins σ (upd H a (.ins C dx (cI f y fs))) s'->Q () s'):wpAny (model X.prog X.w) A (setAttr (.ref a) f u) Q E s:=by
 obtain⟨j,O,r,i,_,k⟩:=pH I.hok e;have p:(fs.map (·.1)).length<=sizeLine:=by rw[aae,sizeLine_eq];lia
 refine XR I.oH O c.sa c.po n.taker c.hd i p λB d l=>h _ ?_;have v:∃o,B.get? dx=some o:=let ⟨o,_,_,D,_⟩:=d.ns;⟨o,D⟩
 refine I.write (x:=a) (e:=dx) (by rw[e];exact True.intro) (.inr k) (λb q w z=>(l.2 b w).trans z) v ?_;refine⟨by rw[aF O.ne];exact k,?_,O.ne,d.obj,_,d.ns,λg=>?_,λg t=>?_⟩
 .have:=yx f y fs;lia
 .show nP ((cI f y fs).lookup g) (if g=f then some u else j g)
  rw[yu]
  by_cases q:g=f
  .rw[ac_ q,ac_ q];exact m
  .rw[ac9 q,ac9 q];exact r g
 .by_cases q:g=f
  .rw[q];exact(xR f y fs).1
  .refine(xR f y fs).2 g (i g λz=>t ?_)
   show (if g=f then some u else j g)=none;rw[ac9 q];exact z
theorem Inv.made(I:Inv X pins σ H s):Inv X pins σ (upd (upd H s.heap.objs.size (.own (s.heap.objs.size+1))) (s.heap.objs.size+1) (.ins C s.heap.objs.size []))
 {s with heap:=(s.heap.push W.emptyDict).push (W.instObj C s.heap.objs.size)}:=by
 have c:(s.heap.push W.emptyDict).get? s.heap.objs.size=some W.emptyDict:=aao s.heap rfl
 have h:((s.heap.push W.emptyDict).push (W.instObj C s.heap.objs.size)).get? (s.heap.objs.size+1)=some (W.instObj C s.heap.objs.size):=by
  have:=aao (s.heap.push W.emptyDict) (o:=W.instObj C s.heap.objs.size) rfl;rwa [Heap.size_push] at this
 have g:(s.heap.push W.emptyDict).Ns s.heap.objs.size (λ_=>none):=⟨W.emptyDict, #[],_,c,Z,(λe f=>ac' f (by simp)),λ_=>rfl⟩;have i:=I.laid (a:=s.heap.objs.size) (o:= .own (s.heap.objs.size+1)) (h':=s.heap.push W.emptyDict) (t':=s.toks) (λb u q=>aan _ q) (aaw _) ⟨_,c⟩;refine i.laid (a:=s.heap.objs.size+1) (o:= .ins C s.heap.objs.size []) (t':=s.toks) (λb u q=>aan _ q) (Nat.le_of_eq (Heap.size_push _ _)) ?_;have ne:s.heap.objs.size≠s.heap.objs.size+1:=abX (Nat.lt_succ_self _);refine⟨by rw[aF ne,ak],Nat.zero_le _,ne,h,λ_=>none,(Heap.Ns1.of_empty g).at λo q=>aan _ q,λ_=>True.intro,λy d=>ac' rfl d⟩
theorem Pu{prog:Program}{f:Str}(b:attributeBase e f env (eval e env)=eval e env)(h:wpAny (model prog w) A (eval e env) (λo a=>wpAny (model prog w) A (getAttr o f true) Q E a) E s):wpAny (model prog w) A (eval (.Attribute e f pos) env) Q E s:=
 Attribute_any_ h (by rw[arm_eval_Attribute,b])
end
inductive Tf(K:zzy)(f:Str)(Q:VK)(x:V)(H1:Hp):Prop|m:∀a C dx fs v,x=.ref a->H1 a=some (.ins C dx fs)->Cls K C->eX K C f->fs.lookup f=some v->Q v H1->Tf K f Q x H1
def adM(K:zzy)(a:TE)(f:Str):TE:=λσ H Q=>a σ H λx H1=>Tf K f Q x H1
inductive TJ(K:zzy)(f:Str)(D:Ends)(σ:St)(y x:V)(H2:Hp):Prop|m:∀a C dx fs,x=.ref a->H2 a=some (.ins C dx fs)->Cls K C->eX K C f->fs.length<1000->D.nx σ (upd H2 a (.ins C dx (cI f y fs)))->TJ K f D σ y x H2
def adZ(K:zzy)(b a:TE)(f:Str):TS:=λD σ H=>a σ H λy H1=>b σ H1 λx H2=>TJ K f D σ y x H2
def afm(X:Cx)(op:Operator)(a:V->V->Hp->VK->Prop):Prop:=
 ∀(pins:zzw)(s:Shared)(σ:St)(H:Hp)(x y:V)(u v:Value)(Q:VK),Inv X pins σ H s->RelV x u->RelV y v->a x y H Q->wpAny (model X.prog X.w) X.A (inplaceOp op u v) (EP X pins σ Q) X.xe s
def NQ(K:zzy)(h g:TE)(i:V->V->Hp->VK->Prop)(f:Str):TS:=λD σ H=>h σ H λx H1=>∃a C dx d v,x=.ref a/\H1 a=some (.ins C dx d)/\Cls K C/\eX K C f/\d.lookup f=some v /\
 g σ H1 λy H2=>i v y H2 λz e=>∃c b,e a=some (.ins C c b)/\b.length<1000/\D.nx σ (upd e a (.ins C c (cI f z b)))
section
variable{o:Expr}{f:Str}
theorem abv(he:PE X e ta)(j:attributeBase e f X.env (eval e X.env)=eval e X.env):PE X (.Attribute e f pos) (adM X.K ta f):=by
 intro b s d H Q I h;refine Pu j (dG (he b s d H _ I h) λu w k=>?_);obtain⟨x,H1,p,g,a,C,z,y,v,ex,m,c,n,l,q⟩:=k;subst ex;obtain rfl:u=Value.ref a:=g;exact BX p m c n l λr t o i=>⟨v,H1,o,i,q⟩
theorem abn(m:PE X o ta)(k:PE X value tv)(hs:swapsWith value (some (.Attribute o f pos')) pos.line X.env=pure false):PS X (.Assign [.Attribute o f pos'] value pos) (adZ X.K ta tv f):=by
 intro b s d H D I h;refine plainObj_wpAny_Assign_Attribute (dG (k b s d H _ I h) λu e ⟨y,H1,v,g,q⟩=>dG (m b e d H1 _ v q) λj z ⟨x,H2,t,i,a,C,B,A,ex,p,c,n,l,q2⟩=>?_) hs;subst ex;obtain rfl:j=Value.ref a:=i;exact Al t p c n l g λw r=>⟨d,_,r,q2⟩
theorem Qq(F:PE X o ta)(E:PE X value tv)(e:afm X op rd):PS X (.AugAssign (.Attribute o f tpos) op value pos) (NQ X.K ta tv rd f):=by
 intro b s d H D I h;refine wpAny_AugAssign_AttributeAny (dG (F b s d H _ I h) λA T g=>?_);obtain⟨x,H1,P,t,a,C,V,U,v,ex,J,c,n,l,q⟩:=g;subst ex;obtain rfl:A=Value.ref a:=t;refine BX P J c n l λu m O w=>dG (E b m d H1 _ O q) λj k ⟨y,H2,N,r,q3⟩=>dG (e b k d H2 v y u j _ N w r q3) λQ S g=>?_;obtain⟨z,W,M,p,K,G,i,B,q4⟩:=g;exact Al M i c n B p λR L=>⟨d,_,L,q4⟩
end
section
variable{c:Value}{b:Bool}
inductive uz(K:zzy)(H:Hp):V->Value->Prop where
 | non:uz K H .non (.type "NoneType")
 | bl (x:Bool):uz K H (.bl x) (.type "bool")
 | int (i:Int):uz K H (.int i) (.type "int")
 | str (x:Str):uz K H (.str x) (.type "str")
 | flt (x:UInt64):uz K H (.flt x) (.type "float")
 | lst {a:Addr} {xs:List V} (e:H a=some (.lst xs)):uz K H (.ref a) (.type "list")
 | JD {a:Addr} {o:Obj} {xs:List V} (e:H a=some (.JD o (.lst xs))):uz K H (.ref a) (.type "list")
 | tup {a:Addr} {xs:List V} (e:H a=some (.tup xs)):uz K H (.ref a) (.type "tuple")
 | dK {a:Addr} {kvs:List (Key×V)} (e:H a=some (.dK kvs)):uz K H (.ref a) (.type "dict")
 | dT {a:Addr} {kvs:List (List Key×V)} (e:H a=some (.dT kvs)):uz K H (.ref a) (.type "dict")
 | ins {a C dx:Addr} {fs:List (Str×V)} (e:H a=some (.ins C dx fs)) (cl:Cls K C) (ha:W.findIn K (.ref C) "__class__" = some (some (.builtin "object.__class__")))
    (hn:W.specialIn K (.builtin "object.__class__") "__get__" = some (some (.builtin "getset_descriptor.__get__"))) (htk:W.takesIn K (.builtin "object.__class__")=some true)
    (hm:W.mroIn K C (.type "object")=some true):uz K H (.ref a) (.ref C)
theorem QW{x:V}{t:Value}(I:Inv X pins σ H s)(d:RelV x u)(ty:uz X.K H x t)(e:W.kitOne X.K t c=some b)(h:∀tk,Q (.bool b) {s with toks:=tk}):
 wpAny (model X.prog X.w) A (call (.builtin "isinstance") [u,c]) Q E s:=by
 cases ty with
 | non=>cases (show u=Value.none from d);exact W.kia_one W.kitx_none I.oH True.intro e (λz=>nomatch z) h
 | bl y=>cases (show u=Value.bool y from d);exact W.kia_one W.kitx_bool I.oH True.intro e (λz=>nomatch z) h
 | int i=>obtain⟨t,q⟩:=(show ∃t,u=Value.int i t from d);cases q;exact W.kia_one W.kitx_int I.oH True.intro e (λz=>nomatch z) h
 | str y=>obtain⟨t,q⟩:=(show ∃t,u=Value.str y t from d);cases q;exact W.kia_one W.kitx_str I.oH True.intro e (λz=>nomatch z) h
 | flt y=>obtain⟨t,q⟩:=(show ∃t,u=Value.float y t from d);cases q;exact W.kia_one W.kitx_float I.oH True.intro e (λz=>nomatch z) h
 | @lst a k f=>
   cases (show u=Value.ref a from d);obtain⟨_,_,n,_,g⟩:=(show dM X.prog X.w H s.heap a (.lst k) from I.hok a _ f);exact W.kia_one W.kitx_list I.oH ⟨_,g,Z⟩ e (λz=>nomatch z) h
 | @JD a r k f=>
   cases (show u=Value.ref a from d);obtain⟨_,_,_,n,_,g⟩:=(show dM X.prog X.w H s.heap a (.JD r (.lst k)) from I.hok a _ f);exact W.kia_one W.kitx_list I.oH ⟨_,g,Z⟩ e (λz=>nomatch z) h
 | @tup a k f=>
   cases (show u=Value.ref a from d);obtain⟨_,_,_,p⟩:=(show dM X.prog X.w H s.heap a (.tup k) from I.hok a _ f);obtain⟨o,g,l,_⟩:=p;exact W.kia_one W.kitx_tuple I.oH ⟨o,g,l⟩ e (λz=>nomatch z) h
 | @dK a j f=>
   cases (show u=Value.ref a from d);obtain⟨_,_,G,_,p⟩:=(show dM X.prog X.w H s.heap a (.dK j) from I.hok a _ f);obtain⟨o,D,F,g,l,_⟩:=p;exact W.kia_one W.kitx_dict I.oH ⟨o,g,l.1⟩ e (λz=>nomatch z) h
 | @dT a j f=>
   cases (show u=Value.ref a from d);obtain⟨_,_,k,_,o,D,F,g,l,_⟩:=(show dM X.prog X.w H s.heap a (.dT j) from I.hok a _ f);exact W.kia_one W.kitx_dict I.oH ⟨o,g,l.1⟩ e (λz=>nomatch z) h
 | @ins a C N M f cl B v m w=>
   cases (show u=Value.ref a from d);obtain⟨L,O,_⟩:=pH I.hok f;obtain⟨K,J,_⟩:=O.look;exact W.kia_one (W.kitx_own (cl.get _) cl.hd B v m w) I.oH J e (λz=>nomatch z) h
end
structure fJ(k:Nat)(A:Around):Prop where
 hd:A.handled=none
 dp:A.depth+3*k+5<recursionLimit
 un:A.units+16*k+200<cLine
theorem fJ.mono(r:fJ k A)(h:j<=k):fJ j A:=⟨r.hd,by have:=r.dp;lia,by have:=r.un;lia⟩
theorem fJ.deeper{k:Nat}{A:Around}(r:fJ (k+1) A)(env:Env):fJ k (A.deeper env):=
 ⟨r.hd,by have:=r.dp;show A.depth+1+3*k+5<_;lia,by have:=r.un;show A.units+3+16*k+200<_;lia⟩
theorem fJ.in1{k:Nat}{A:Around}(r:fJ (k+1) A):fJ k A.in1:=
 ⟨r.hd,by have:=r.dp;show A.depth+3*k+5<_;lia,by have:=r.un;show A.units+1+16*k+200<_;lia⟩
theorem Lh:(A.under (.builtin "type.__call__" ⟨.ref C::us,kw⟩)).depth=A.depth+1:=by
 first |rfl|simp[Around.under,Code.weight,Code.isCreation,Code.isGuard,Code.isCaller,Code.frames,Code.isFrame,guardIds]
theorem Lg:(A.under (.builtin "type.__call__" ⟨.ref C::us,kw⟩)).units=A.units+1:=by
 first |rfl|simp[Around.under,Code.cUnits,Code.frames,Code.isFrame]
theorem fJ.make(r:fJ (k+1) A)(C:Addr)(us:zzt)(kw:List (Str×Value)):fJ k (A.under (.builtin "type.__call__" ⟨.ref C::us,kw⟩)):=
 ⟨r.hd,by have:=r.dp;rw[Lh];lia,by have:=r.un;rw[Lg];lia⟩
theorem fJ.depth{k:Nat}{A:Around}(r:fJ k A):A.depth<recursionLimit:=by have:=r.dp;lia
theorem fJ.units{k:Nat}{A:Around}(r:fJ k A):A.units+64<cLine:=by have:=r.un;lia
theorem fJ.aaP(r:fJ k A):A.units<cLine:=by have:=r.un;lia
def uM:TA:=λ_ H Q=>Q [] H
def jo(b:TE)(a:TA):TA:=λσ H Q=>b σ H λx H1=>a σ H1 λxs H2=>Q (x::xs) H2
section
variable{t:TA}
theorem au:PA X [] uM:=λ_ _ _ _ H Q I h=>Calls.spliced_nil ⟨[],H,I,.nil,h⟩
theorem aj(j:PE X e te)(i:PA X es t)(hs:starEach (e::es) X.env=(false,eval e X.env)::starEach es X.env:=by rfl):PA X (e::es) (jo te t):=by
 intro pos a s b H Q I h;rw[hs];show wpAny _ _ (spliced ((false,eval e X.env)::backTo pos (starEach es X.env))) _ _ s;refine Calls.spliced_cons (dG (j a s b H _ I h) λu d k=>?_);obtain⟨x,H1,m,g,q1⟩:=k;exact dG (i pos a d b H1 _ m q1) λn o ⟨c,H2,l,f,q2⟩=>⟨x::c,H2,l,.cons g f,q2⟩
def aaX(t:TA):TE:=λσ H Q=>t σ H λxs H1=>xs.length<=sizeLine /\ ∀p,H1 p=none->Q (.ref p) (upd H1 p (.tup xs))
def agT(t:TA):TE:=λσ H Q=>t σ H λxs H1=>xs.length<=sizeLine /\ ∀p,H1 p=none->Q (.ref p) (upd H1 p (.lst xs))
theorem dY{i}(h:PA X es t):PE X (.Tuple es i pos) (aaX t):=by
 intro a s f H Q I k;refine wpAny_Tuple_spliced (dG (h pos a s f H _ I k) λj c ⟨g,H1,d,r,z,q⟩=>⟨by rw[←r.length];exact z,?_⟩);have l:H1 c.heap.objs.size=none:=d.hok.fresh (aaw _);refine⟨.ref c.heap.objs.size,upd H1 c.heap.objs.size (.tup g),d.laid (t':=c.toks) (λb u e=>aan _ e) (aaw _) ?_,Z,q _ l⟩;exact⟨z,j,r,⟨_,aao _ rfl,Z,_,Z⟩⟩
theorem cJ(h:PA X es t):PE X (.List es pos) (agT t):=by
 intro a s f H Q I j;refine wpAny_List_spliced (dG (h pos a s f H _ I j) λi c ⟨g,H1,d,r,z,q⟩=>⟨by rw[←r.length];exact z,?_⟩);have k:H1 c.heap.objs.size=none:=d.hok.fresh (aaw _);refine⟨.ref c.heap.objs.size,upd H1 c.heap.objs.size (.lst g),d.laid (t':=c.toks) (λb u e=>aan _ e) (aaw _) ?_,Z,q _ k⟩;exact⟨z,i,0,r,aao _ rfl⟩
end
abbrev Sp:=List V->Hp->VK->XK->Prop
abbrev RQ:=List Env->Hp->Shared->XK->Value->Shared->Prop
structure Dp(P:Program)(w:World)(K:zzy)(mg:zzv)(base:Heap)(A:Around)(outer:List Env)(s:Shared)(H:Hp):Prop where
 frames:A.frames=some outer
 mod:Mod K mg base
 bs:∀b o,base.get? b=some o->s.heap.get? b=some o/\H b=none
 Mj:base.objs.size<=s.heap.objs.size
 pW:s.heap.FunFrames base outer
 RN:∀b∈frs outer,H b=none
 hok:sX P w H s.heap
 bare:AllBare s.gens
def CE(outer:List Env)(P:Program)(w:World)(H:Hp)(s:Shared)(Q:VK)(u:Value)(s':Shared):Prop:=
 ∃v H',s'.os=s.os/\AllBare s'.gens/\Un (frs outer) [] H H' s.heap s'.heap/\sX P w H' s'.heap/\RelV v u/\Q v H'
def CR(CX:RQ)(outer:List Env)(P:Program)(w:World)(H:Hp)(s:Shared)(Q:VK)(E:XK)(r:Result)(s':Shared):Prop:=
 match r with
 | .ok (.ret u)=>CE outer P w H s Q u s'
 | .ok _=>False
 | .error e=>CX outer H s E e s'
structure bR(P:Program)(w:World)(K:zzy)(mg:zzv)(base:Heap)(CX:RQ)(k:Nat)(f:Addr)(fd:zzs)(ps:List Str)(sp:Sp):Prop where
 len:∀vs H Q E,sp vs H Q E->vs.length=ps.length
 run:∀(A:Around)(outer:List Env)(s:Shared)(H:Hp)(args:Args)(us:zzt)(vs:List V)(Q:VK)(E:XK),fJ k A->Dp P w K mg base A outer s H->BindsTo s fd args (ps.zip us)->Vals vs us->sp vs H Q E ->
  codeAny (model P w) A (.call (.ref f) args) (CR CX outer P w H s Q E) s
theorem Dp.make{mg:zzv}(e:Dp P w K mg base A outer s H)(C:Addr)(us:zzt)(kw:List (Str×Value)):
 Dp P w K mg base (A.under (.builtin "type.__call__" ⟨.ref C::us,kw⟩)) outer s H:=⟨by first |exact e.frames|(simpa [Around.under,Code.envs,Code.isFrame,pushEnvs] using e.frames),e.mod,e.bs,e.Mj,e.pW,e.RN,e.hok,e.bare⟩
theorem Dp.in1{P:Program}{w:World}{K:zzy}{mg:zzv}{base:Heap}{A:Around}{outer:List Env}{s:Shared}{H:Hp}(e:Dp P w K mg base A outer s H):
 Dp P w K mg base A.in1 outer s H:=⟨e.frames,e.mod,e.bs,e.Mj,e.pW,e.RN,e.hok,e.bare⟩
theorem Inv.env0(I:Inv X pins σ H s):Dp X.prog X.w X.K X.mg X.base X.A X.stack s H:=
 ⟨I.ok.frames,I.ok.mod,I.bs,ac5 I.ok.Mj I.sz,I.stack,I.Ft,I.hok,I.bare⟩
theorem Inv.after{Q:VK}(I:Inv X pins σ H s)(h:CE X.stack X.prog X.w H s Q u s'):EP X pins σ Q u s':=by
 obtain⟨v,f,os,bare,un,c,r,q⟩:=h;obtain⟨e,g,d,t,a⟩:=s';obtain rfl:a=s.os:=os;exact⟨v,f,I.call (h':=e) (g':=g) (d':=d) (t':=t) (ch:=[]) un c bare (λb z=>ac' z (by simp)),r,q⟩
def Io(sp:Sp)(qY:List V)(E:XK)(t:TA):TE:=λσ H Q=>t σ H λvs H1=>sp (vs++qY) H1 Q E
inductive Nq(C:Addr)(m:Str)(sp:Sp)(qY:List V)(E:XK)(t:TA)(σ:St)(Q:VK)(x:V)(H1:Hp):Prop|m:∀a dx fs,x=.ref a->H1 a=some (.ins C dx fs)->fs.lookup m=none->(t σ H1 λvs H2=>sp (x::(vs++qY)) H2 Q E)->Nq C m sp qY E t σ Q x H1
def Im(C:Addr)(m:Str)(sp:Sp)(qY:List V)(E:XK)(a:TE)(t:TA):TE:=λσ H Q=>a σ H λx H1=>Nq C m sp qY E t σ Q x H1
def Z5(C:Addr)(sp:Sp)(qY:List V)(E:XK)(t:TA):TE:=λσ H Q=>t σ H λvs H1=>∀x dx,H1 x=none->H1 dx=none->dx≠x ->
 sp (.ref x::(vs++qY)) (upd (upd H1 dx (.own x)) x (.ins C dx [])) (λv H2=>v=.non/\Q (.ref x) H2) E
def Binds(K:zzy)(a:zzs)(ps:List Str)(ds:zzt):Prop:=
 ∀(s:Shared)(us:zzt),K.In s.heap->(us++ds).length=ps.length->BindsTo s a ⟨us,[]⟩ (ps.zip (us++ds))
theorem Binds.all(h:∀us:List Value,us.length=ps.length->bindArgs fd ⟨us,[]⟩=pure (ps.zip us)):Binds K fd ps []:=λs us _ a=>by
 rw[List.append_nil] at a ⊢;exact .of_eq (h us a)
def Passes(CX:RQ)(X:Cx)(E:XK):Prop:=∀(pins:zzw)(σ:St)(H:Hp)(s:Shared)(e:Value)(s':Shared),Inv X pins σ H s->CX X.stack H s E e s'->X.xe e s'
section
variable{CX:RQ}{sp:Sp}{ds:zzt}{E:XK}{m:Str}{p:Pos}{o:Expr}{t:TA}
theorem Gh{Q:VK}(F:bR X.prog X.w X.K X.mg X.base CX k f fd ps sp)(g:fJ k X.A)(l:Binds X.K fd ps ds)(j:Vals qY ds)(d:Passes CX X E)(I:Inv X pins σ H s)(r:Vals vs us)(h:sp (vs++qY) H Q E):wpAny (model X.prog X.w) X.A (call (.ref f) us) (EP X pins σ Q) X.xe s:=by
 have b:Vals (vs++qY) (us++ds):=r.append j;have i:(us++ds).length=ps.length:=by rw[←b.length];exact F.len _ _ _ _ h
 refine wpAny_call (codeAny_mono (F.run X.A X.stack s H ⟨us,[]⟩ (us++ds) (vs++qY) Q E g I.env0 (l s us I.oH i) b h) λr c a=>?_);cases r with
 | error e=>exact d pins σ H s e c I a
 | ok m=>
   cases m with
   | ret u=>exact I.after a
   | next=>exact False.elim a
   | brk=>exact False.elim a
   | cont=>exact False.elim a
theorem Yv(F:bR X.prog X.w X.K X.mg X.base CX k f fd ps sp)(g:fJ k X.A)(l:Gl X x)(i:X.mg x=some (.ref f))(j:W.keepIn X.K (.ref f)=true)(n:Binds X.K fd ps ds)(m:Vals qY ds)(d:Passes CX X E)(o:PA X (e::es) t)(hdb:(x==("__debug__" :Str))=false:=by decide)(he:starEach (e::es) X.env=(false,eval e X.env)::starEach es X.env:=by rfl)(hpl:(backTo pos (starEach es X.env)).any (·.1)=false:=by rfl):
 PE X (.Call (.Name x p) (e::es) [] pos) (Io sp qY E t):=by
 intro a s c H Q I h;refine wpAny_Call_Name_kw (pC I l i ?_ hdb);refine W.callWith_K (h₀:=X.base) I.ok.mod.VB j (dG (o pos a s c H _ I h) λv w ⟨u,H1,b,r,q⟩=>⟨b.oH,?_⟩) he hpl;exact Gh F g n m d b r q
theorem Yt{pl:Sem Bool}(he:PE X o ta)(c:Cls X.K C)(j:Meth X.K C m f)(F:bR X.prog X.w X.K X.mg X.base CX k f fd ps sp)(A:fJ k X.A)(D:Binds X.K fd ps ds)(B:Vals qY ds)(y:Passes CX X E)(G:PA X (e::es) t)(d:starEach (e::es) X.env=(false,eval e X.env)::starEach es X.env:=by rfl)(hpl:(backTo pos (starEach es X.env)).any (·.1)=false:=by rfl)(z:eval (.Call (.Attribute o m apos) (e::es) [] pos) X.env=(do
   let i ←eval o X.env
   standAt apos.atName
   let (f,first) ←holding [i] (getMethod i m pl)
   callWith pos f first (backTo pos (starEach (e::es) X.env)) (backToKw pos (keywordEach [] X.env))):=by rfl):
 PE X (.Call (.Attribute o m apos) (e::es) [] pos) (Im C m sp qY E ta t):=by
 intro b s g H Q I h;refine W.methodCall_KW (pl:=pl) (dG (he b s g H _ I h) λu v ⟨x,H1,p,w,a,M,L,ex,J,l,q⟩=>?_) z;subst ex;obtain rfl:u=Value.ref a:=w;refine uq p J c j l ?_;refine W.callWith_K (first:=[.ref a]) (h₀:=X.base) I.ok.mod.VB j.kp (dG (G pos b v g H1 _ p q) λus K ⟨vs,H2,n,r,q2⟩=>⟨n.oH,?_⟩) d hpl;exact Gh (us:= .ref a::us) (vs:= .ref a::vs) F A D B y n (.cons rfl r) q2
theorem Uw{pl:Sem Bool}(he:PE X o ta)(c:Cls X.K C)(g:Meth X.K C m f)(F:bR X.prog X.w X.K X.mg X.base CX k f fd ps sp)(r:fJ k X.A)(v:Binds X.K fd ps ds)(t:Vals qY ds)(n:Passes CX X E)(p:eval (.Call (.Attribute o m apos) [] [] pos) X.env=(do
   let e ←eval o X.env
   standAt apos.atName
   let (f,first) ←holding [e] (getMethod e m pl)
   callWith pos f first (backTo pos (starEach [] X.env)) (backToKw pos (keywordEach [] X.env))):=by rfl):
 PE X (.Call (.Attribute o m apos) [] [] pos) (Im C m sp qY E ta uM):=by
 intro b s i H Q I h;refine W.methodCall_KW (pl:=pl) (dG (he b s i H _ I h) λu y ⟨x,H1,d,j,a,A,z,ex,w,l,q⟩=>?_) p;subst ex;obtain rfl:u=Value.ref a:=j;refine uq d w c g l ?_;exact W.callWith_K0 (first:=[.ref a]) d.oH g.kp (Gh (us:=[.ref a]) (vs:=[.ref a]) F r v t n d (.cons rfl .nil) q)
structure Mk(K:zzy)(C f:Addr):Prop where
 makes:W.makesIn K C=true
 init:W.findIn K (.ref C) "__init__" = some (some (.ref f))
 fn:W.isFn K (.ref f)=true
 kp:W.keepIn K (.ref C)=true
theorem TQ{Q:VK}(M:Mk X.K C f)(F:bR X.prog X.w X.K X.mg X.base CX k f fd ps sp)(l:fJ (k+1) X.A)(o:Binds X.K fd ps ds)(n:Vals qY ds)(j:Passes CX X E)(I:Inv X pins σ H s)(r:Vals vs us)(h:∀x dx,H x=none->H dx=none->dx≠x->sp (.ref x::(vs++qY)) (upd (upd H dx (.own x)) x (.ins C dx [])) (λv H2=>v=.non/\Q (.ref x) H2) E):
 wpAny (model X.prog X.w) X.A (call (.ref C) us) (EP X pins σ Q) X.xe s:=by
 have d:=h (s.heap.objs.size+1) s.heap.objs.size (I.hok.fresh (Nat.le_succ _)) (I.hok.fresh (aaw _)) (abX (Nat.lt_succ_self _));have b:=Inv.made (C:=C) I;have c:Vals (V.ref (s.heap.objs.size+1)::(vs++qY)) (Value.ref (s.heap.objs.size+1)::(us++ds)):= .cons rfl (r.append n)
 have m:(Value.ref (s.heap.objs.size+1)::us++ds).length=ps.length:=by
  have e:=c.length;rw[F.len _ _ _ _ d] at e;exact e.symm
 refine wpAny_call (Vu (f:=f) I.oH M.makes M.init (beq_iff_eq.mp M.fn) (codeAny_mono (F.run _ X.stack _ _ ⟨Value.ref (s.heap.objs.size+1)::us,[]⟩ (Value.ref (s.heap.objs.size+1)::(us++ds)) _ _ E (l.make C us [])
  (b.env0.make C us []) (o _ (Value.ref (s.heap.objs.size+1)::us) b.oH m) c d) λr g a=>?_))
 cases r with
 | error e=>exact j pins σ _ _ e g b a
 | ok p=>
   cases p with
   | ret u=>
     obtain⟨v,t,q,i,ev,q3⟩:=b.after a;subst ev;exact⟨i,⟨V.ref (s.heap.objs.size+1),t,q,Z,q3⟩⟩
   | next=>exact False.elim a
   | brk=>exact False.elim a
   | cont=>exact False.elim a
theorem Yu(M:Mk X.K C f)(F:bR X.prog X.w X.K X.mg X.base CX k f fd ps sp)(g:fJ (k+1) X.A)(j:Gl X x)(i:X.mg x=some (.ref C))(m:Binds X.K fd ps ds)(l:Vals qY ds)(d:Passes CX X E)(n:PA X (e::es) t)(hdb:(x==("__debug__" :Str))=false:=by decide)(he:starEach (e::es) X.env=(false,eval e X.env)::starEach es X.env:=by rfl)(hpl:(backTo pos (starEach es X.env)).any (·.1)=false:=by rfl):
 PE X (.Call (.Name x p) (e::es) [] pos) (Z5 C sp qY E t):=by
 intro a s c H Q I h;refine wpAny_Call_Name_kw (pC I j i ?_ hdb);refine W.callWith_K (h₀:=X.base) I.ok.mod.VB M.kp (dG (n pos a s c H _ I h) λu v ⟨o,H1,b,r,q⟩=>⟨b.oH,?_⟩) he hpl;exact TQ M F g m l d b r q
end
section
variable{CX:RQ}{ks:List Str}{sp:Sp}{E:XK}{m:Str}{p kpos:Pos}{o:Expr}{kws:List Keyword}{t tk:TA}
variable{g:List Value->List Value->List Value}
end
structure aY(N P:List Str)(sc:Scope):Prop where
 kind:sc.kind=.function:=by rfl
 co:sc.isCoroutine=false:=by rfl
 gen:sc.isGenerator=false:=by rfl
 nd:N.Nodup:=by decide +kernel
 pre:N.take P.length=P:=by rfl
 par:∀x∈P,sc.names.lookup x=some .local\/sc.names.lookup x=some .cell:=by decide +kernel
 abS:∀y∈sc.names,y.2 ≠ .free:=by decide +kernel
theorem Eu{kindOf:Str->Option NameKind}{x:Str}:∀{binds:List (Str×Value)}{m:zzv},(∀v,(x,v)∉binds)->bindL kindOf binds m x=m x
 | [],_,_=>rfl
 | (n,v)::r,m,h=>by
   unfold bindL;rw[Eu λw hw=>h w (acq _ hw)];split
   .have:x≠n:=by rintro rfl;exact h v List.mem_cons_self
    simp[this]
   .rfl
theorem Ey{kindOf:Str->Option NameKind}{x:Str}:∀{binds:List (Str×Value)}{m:zzv},(∀v,(x,v)∉binds)->bindC kindOf binds m x=m x
 | [],_,_=>rfl
 | (n,v)::r,m,h=>by
   unfold bindC;rw[Ey λw hw=>h w (acq _ hw)];split
   .rfl
   .have:x≠n:=by rintro rfl;exact h v List.mem_cons_self
    simp[this]
theorem Ew{kindOf:Str->Option NameKind}{x:Str}{v:Value}:∀{P:List Str}{vs:zzt}{i:Nat}{m:zzv},P.Nodup->P[i]?=some x->vs[i]?=some v->kindOf x=some .local ->
 bindL kindOf (P.zip vs) m x=some v
 | [],_,_,_,_,h,_,_=>by simp at h
 | _::_,[],_,_,_,_,h,_=>by simp at h
 | p::P,w::vs,0,m,b,h1,a,c=>by
   simp at h1 a;subst h1;subst a;show bindL kindOf ((p,w)::P.zip vs) m p=_;unfold bindL;rw[Eu λv d=>(List.nodup_cons.mp b).1 (List.of_mem_zip d).1,ac_ c];simp
 | p::P,w::vs,i+1,m,b,h1,a,c=>by
   show bindL kindOf ((p,w)::P.zip vs) m x=_;unfold bindL;exact Ew (i:=i) (List.nodup_cons.mp b).2 (by simpa using h1) (by simpa using a) c
theorem Ez{kindOf:Str->Option NameKind}{x:Str}{v:Value}:∀{P:List Str}{vs:zzt}{i:Nat}{m:zzv},P.Nodup->P[i]?=some x->vs[i]?=some v->kindOf x≠some .local ->
 bindC kindOf (P.zip vs) m x=some v
 | [],_,_,_,_,h,_,_=>by simp at h
 | _::_,[],_,_,_,_,h,_=>by simp at h
 | p::P,w::vs,0,m,b,h1,a,c=>by
   simp at h1 a;subst h1;subst a;show bindC kindOf ((p,w)::P.zip vs) m p=_;unfold bindC;rw[Ey λv d=>(List.nodup_cons.mp b).1 (List.of_mem_zip d).1,ac9 c];simp
 | p::P,w::vs,i+1,m,b,h1,a,c=>by
   show bindC kindOf ((p,w)::P.zip vs) m x=_;unfold bindC;exact Ez (i:=i) (List.nodup_cons.mp b).2 (by simpa using h1) (by simpa using a) c
def start(N:List Str)(vs:List V):St:=vs.map some++List.replicate (N.length-vs.length) none
def pX(CX:RQ)(P:Program)(w:World)(K:zzy)(mg:zzv)(base:Heap)(N:List Str)(b:Str)(a:Scope)(f:Addr)(cd:Value)(A:Around)(outer:List Env)(s:Shared)(H:Hp)(E:XK):Cx where
 prog:=P
 w:=w
 K:=K
 mg:=mg
 base:=base
 A:=A.deeper (envOfC b a s.heap.objs.size f cd)
 N:=N
 s₀:=s
 H₀:=H
 env:=envOfC b a s.heap.objs.size f cd
 outer:=outer
 stack:=envOfC b a s.heap.objs.size f cd::outer
 ex:=[]
 calm:=true
 fn:=λ_=>true
 pn:=[]
 xe:=λe s'=>wpAny (model P w) (A.deeper (envOfC b a s.heap.objs.size f cd)) (leaving (envOfC b a s.heap.objs.size f cd) e) (λ_ c=>CX outer H s E e c) (λd c=>CX outer H s E d c) s'
theorem JW{a:Scope}(h:a.names.lookup x=some .cell):∃c,(cellsFrom n a.names []).lookup x=some c:=by
 have q:=W.cellsFrom_some a.names n [] (.inl h);exact Option.isSome_iff_exists.mp q
theorem QZ{CX:RQ}{mg:zzv}{d:Scope}{D:Shared}{E:XK}(S:aY N ps d)(L:A.handled=none)(j:Dp P w K mg base A outer s H)(Q:vs.length=ps.length)(r:Vals vs us)(x:InCallC s s.heap.objs.size (bindL (envOfC qual d s.heap.objs.size f cd).kindOf (ps.zip us) λ_=>none) (cellsFrom (s.heap.objs.size+1) d.names []) (bindC (envOfC qual d s.heap.objs.size f cd).kindOf (ps.zip us) λ_=>none) D):
 Inv (pX CX P w K mg base N qual d f cd A outer s H E) [] (start N vs) H D:=by
 have J:ps.length<=N.length:=by have:=congrArg List.length S.pre;rw[acX] at this;lia
 obtain⟨C,O,rfl,G⟩:=x.done;have l:∀b:Addr,b∉(pX CX P w K mg base N qual d f cd A outer s H E).ex:=λb z=>ac' (show b∈([]:List Addr) from z) (by simp)
 refine⟨⟨j.mod,S.kind,Z,Z,aaw _,λy z c C g=>?_,λy m=>?_,λy c _ h=>?_,λ_=>L,Around.frames_deeper j.frames,.inr ⟨Z,Z⟩,λb z=>ac' z (l b),j.bs,j.Mj,λb _ _=>l b,λb z=>ac' z (l b),j.pW,j.RN⟩,
  Z,j.bare,Un.kept G,⟨_,x.toInCall.ns,λi y v C g R=>?_⟩,λy c h=>⟨_,x.cell y c h⟩,j.hok.fresh (aaw _),λy c h=>?_,λp t=>ac' (show p∈([]:zzw) from t) (by simp),j.hok.kept G,?_⟩
 .exact name_of_addr x.apart (PySem.mem_of_lookup C) (PySem.mem_of_lookup g)
 .have m:d.names.lookup y=some .cell\/d.names.lookup y=some .free:=m
  rcases m with m|m
  .exact JW m
  .exact ac' rfl (S.abS _ (PySem.mem_of_lookup m))
 .exact ac6 (x.above y c (PySem.mem_of_lookup h))
 .have B:i<vs.length:=by
   unfold start at g
   by_cases B:i<vs.length
   .exact B
   .rw[abj (by simpa using B)] at g
    rw[List.getElem?_replicate] at g;split at g<;>cases g
  have M:vs[i]?=some v:=by
   unfold start at g;rw[abU (by simpa using B),aam] at g;cases e:vs[i]? with
   | none=>rw[e] at g;cases g
   | some a=>rw[e] at g;cases g;rfl
  obtain⟨u,F,I⟩:=r.get M
  have t:ps[i]?=some y:=by
   rw[←S.pre,List.getElem?_take_of_lt (by lia)];exact C
  have o:ps.Nodup:=by rw[←S.pre];exact S.nd.sublist (List.take_sublist _ _)
  refine⟨u,I,?_⟩;rcases S.par y (aaK t) with k|k
  .exact .inl ⟨k,Ew o t F k⟩
  .obtain⟨c,e⟩:=JW (n:=s.heap.objs.size+1) k
   refine .inr ⟨.inl k,c,e,?_⟩;have q:=x.cell y c e;rw[Ez o t F (by show d.names.lookup y≠_;rw[k];decide)] at q;exact q
 .exact j.hok.fresh (ac6 (x.above y c (PySem.mem_of_lookup h)))
 .unfold start
  show _=N.length;rw[abf,aae,List.length_replicate];lia
theorem V8{CX:RQ}{mg:zzv}{params:Arguments}{a:Scope}{D kV:Value}{sp:Sp}(G:K.lookup f=some ⟨oc,od,.func (W.fnOf name qual params body a D kV doc pm an cdv ct),osl⟩)(B:W.codeIn K cdv qual=true)(S:aY N ps a)(len:∀vs H Q E,sp vs H Q E->vs.length=ps.length)(g:∀(A:Around)(outer:List Env)(s:Shared)(H:Hp)(vs:List V)(Q:VK)(E:XK),fJ k (A.deeper (envOfC qual a s.heap.objs.size f cdv))->sp vs H Q E ->
   ∃t,Kf (pX CX P w K mg base N qual a f cdv A outer s H E) body t/\t {nx:=λ_ H'=>Q .non H',rt:=Q} (start N vs) H):
 bR P w K mg base CX (k+1) f (W.fnOf name qual params body a D kV doc pm an cdv ct) ps sp:=by
 refine⟨len,λA outer s H args F vs Q E z l U r i=>?_⟩;have R:=len _ _ _ _ i;have KX:K.In s.heap:=l.mod.VB.keeps λb o e=>(l.bs b o e).1;have lim:s.heap.NoLimit:=l.mod.nolimit.keeps λb o e=>(l.bs b o e).1
 have d:∀y∈ps.zip F,a.names.lookup y.1=some .local\/(a.names.lookup y.1=some .cell/\((cellsFrom (s.heap.objs.size+1) a.names []).lookup y.1).isSome=true):=λ⟨n,v⟩ L=>by
  rcases S.par n (List.of_mem_zip L).1 with q|q
  .exact .inl q
  .exact .inr ⟨q,W.cellsFrom_some _ _ _ (.inl q)⟩
 refine codeAny_call_function z.depth (KX _ _ G) rfl S.co S.gen rfl (W.codeRec_of KX B) (U _ _ _ _ ?_);refine wpAny_newFunctionEnv_cells S.kind d λenv T C x=>?_;subst T;refine⟨lim.keeps x.toInCall.keep,codeAny_func ?_⟩;obtain⟨t,M,O⟩:=g A outer s H vs Q E (z.deeper _) i;have I:Inv (pX CX P w K mg base N qual a f cdv A outer s H E) [] (start N vs) H C:=QZ S z.hd l R r x;refine wpAny_mono (M [] C (start N vs) H _ I O) (λX m h=>?_) λe m h=>h
 have j:∀{c:St}{H':Hp}{v:V}{u:Value},Inv (pX CX P w K mg base N qual a f cdv A outer s H E) [] c H' m->RelV v u->Q v H'->CE outer P w H s Q u m:=
  fun {c H' v u} J p q=>⟨v,H',J.os,J.bare,J.base,J.hok,p,q⟩
 cases X with
 | ret u=>
   obtain⟨v,c,H',J,p,q⟩:=h;exact j J p q
 | next=>
   obtain⟨c,H',J,q⟩:=h;exact j (v:=V.non) (u:=Value.none) J rfl q
 | brk=>
   obtain⟨_,_,_,q⟩:=h;exact False.elim q
 | cont=>
   obtain⟨_,_,_,q⟩:=h;exact False.elim q
section
variable{p:Pos}{t:TA}{id:String}{r:List V->Hp->VK->Prop}
def tCB(r:List V->Hp->VK->Prop)(t:TA):TE:=λσ H Q=>t σ H λvs H1=>r vs H1 Q
theorem aV(m:jt X (.builtin id) r)(l:Gl X x)(k:X.mg x=none)(i:bootBuiltins x=some (.builtin id))(n:PA X (e::es) t)(j:x ≠ "__name__" :=by decide)(hdb:(x==("__debug__" :Str))=false:=by decide)(he:starEach (e::es) X.env=(false,eval e X.env)::starEach es X.env:=by rfl)(hpl:(backTo pos (starEach es X.env)).any (·.1)=false:=by rfl):PE X (.Call (.Name x p) (e::es) [] pos) (tCB r t):=by
 intro a s b H Q I h;refine wpAny_Call_Name_kw (pF I l k i ?_ j hdb);exact PyProof.Rows.callWith_builtin1 (dG (n pos a s b H _ I h) λd f ⟨c,H1,o,g,q1⟩=>m a f b H1 c d Q o g q1) he hpl
theorem dB(m:jt X (.type T) r)(l:Gl X x)(k:X.mg x=none)(i:bootBuiltins x=some (.type T))(n:PA X (e::es) t)(j:x ≠ "__name__" :=by decide)(hdb:(x==("__debug__" :Str))=false:=by decide)(he:starEach (e::es) X.env=(false,eval e X.env)::starEach es X.env:=by rfl)(hpl:(backTo pos (starEach es X.env)).any (·.1)=false:=by rfl):PE X (.Call (.Name x p) (e::es) [] pos) (tCB r t):=by
 intro a s b H Q I h;refine wpAny_Call_Name_kw (pF I l k i ?_ j hdb);exact PyProof.Rows.callWith_type1 (dG (n pos a s b H _ I h) λd f ⟨c,H1,o,g,q1⟩=>m a f b H1 c d Q o g q1) he hpl
end
end L2
variable{g:L2.TG}{wi:L2.TI}{CX:L2.RQ}{sp:L2.Sp}
namespace HT
open PySem PyProof.Rows
section
open PySem.SeqAt
open PySem.AutoSeq1 (wpAny_loadPart')
open PySem.MeetsSeq PySem.MeetsSeq2 PySem.MeetsSeq3
end
section
variable{prog:Program}
theorem ZD{t:Addr}{vs ws:zzt}(q:IsTup s.heap t vs.toArray)(r:IsTup s.heap b ws.toArray)(k:vs≠[])(v:ws=[]->Q (.ref t) s)(u:ws≠[]->Q (.ref s.heap.objs.size) {s with heap:=s.heap.push {cls:= .type "tuple",data:= .seq (vs++ws).toArray}})(h:vs.length+ws.length<=sizeLine):wpAny (model prog w) A (binaryOp .Add (.ref t) (.ref b)) Q E s:=by
 obtain⟨⟨cls,o,data,i⟩,g,m,n,l⟩:=id q;obtain⟨⟨p,f,data2,c⟩,a,d,j,hd2⟩:=id r;simp only at m l d hd2;subst m l d hd2;have e:vs.toArray++ws.toArray=(vs++ws).toArray:=by simp
 by_cases hw:ws=[]
 .exact concat_meets ⟨_,g,Z⟩ ⟨_,a,Z⟩ noFill_tuple_add seq_tuple_add F.slot_tuple_add F.entry_tuple_add (F.args_tuple_add_2 _ _)
   (tuple_addW1 t b vs.toArray ws.toArray n j o f i c (by simpa using k) (by simp[hw])) ⟨g,a,v hw⟩
 .refine concat_meets ⟨_,g,Z⟩ ⟨_,a,Z⟩ noFill_tuple_add seq_tuple_add F.slot_tuple_add F.entry_tuple_add (F.args_tuple_add_2 _ _)
   (tuple_addW2 t b vs.toArray ws.toArray n j o f i c (by simpa using k) (by simpa using hw) (by rw[aa8,aa8];exact h)) ⟨g,a,?_⟩
  rw[e];exact u hw
def jm(n d:Nat):Option Int->Nat
 | none=>d
 | some v=>if v<0 then (v+(n:Int)).toNat else min v.toNat n
theorem Bd(n d:Nat):jm n d none=d:=Z
theorem Gg(n d k:Nat):jm n d (some (k:Int))=min k n:=by
 show (if (k:Int)<0 then ((k:Int)+(n:Int)).toNat else min (k:Int).toNat n)=min k n;rw[ac9 (by lia),acd]
theorem abd(n d:Nat)(b:d<=n)(o:Option Int):jm n d o<=n:=by
 cases o with
 | none=>exact b
 | some v=>
   show (if v<0 then (v+(n:Int)).toNat else min v.toNat n)<=n
   by_cases a:v<0
   .rw[ac_ a];lia
   .rw[ac9 a];exact Nat.min_le_right _ _
theorem Pb(v:Int)(n d:Nat):(if v<0 then max (v+(n:Int)) 0 else min v (n:Int))=((jm n d (some v):Nat):Int):=by
 show (if v<0 then max (v+(n:Int)) 0 else min v (n:Int))=(((if v<0 then (v+(n:Int)).toNat else min v.toNat n):Nat):Int)
 by_cases a:v<0
 .simp only[ac_ a];lia
 .simp only[ac9 a];lia
theorem Mr(lo hi:Option Int)(n:Nat):Builtin.Slice.sliceAdjust lo hi 1 (n:Int)=(((jm n 0 lo:Nat):Int),((jm n n hi:Nat):Int)):=by
 have a:¬((1:Int)<0):=by lia
 unfold Builtin.Slice.sliceAdjust;simp only[a,if_false];refine Prod.ext ?_ ?_
 .cases lo with
  | none=>rfl
  | some v=>exact Pb v n 0
 .cases hi with
  | none=>rfl
  | some v=>exact Pb v n n
theorem K4(i j:Nat):Builtin.Slice.slicePlaces (i:Int) (j:Int) 1=j-i:=by
 unfold Builtin.Slice.slicePlaces;have a:(1:Int)>0:=by lia
 simp only[a,if_true,Int.ediv_one];split<;>lia
theorem Ak{v:Value}{o:Option Int}{Q:Option Int->Shared->Prop}(p:IsPart v o)(h:Q o s):wpAny (model prog w) A (Builtin.Slice.slicePartIndex v) Q E s:=by
 cases p with
 | none=>exact slicePart_none h
 | int i t=>exact slicePart_int h
theorem wX{lo hi:Option Int}{Q:Int×Int×Nat->Shared->Prop}(hs:s.heap.IsSliceOf sl vl vu .none)(pl:IsPart vl lo)(pu:IsPart vu hi)(h:Q (((jm n 0 lo:Nat):Int),1,jm n n hi-jm n 0 lo) s):wpAny (model prog w) A (Builtin.Slice.sliceApplied (.ref sl) (pure (n:Int))) Q E s:=by
 obtain⟨os,a,c,b⟩:=id hs;unfold Builtin.Slice.sliceApplied Builtin.Slice.sliceFields;refine aax (aax (wpAny_field a b (x:=vl) rfl (aax (wpAny_field a b (x:=vu) rfl (aax (wpAny_field a b (x:= .none) rfl (aay ?_)))))));refine aax (slicePart_none ?_);show wpAny _ _ (if ((1:Int)==0)=true then _ else _) _ _ s;rw[ac9 (by decide)];refine aax (Ak pl (aax (Ak pu (aax (aay ?_)))));show wpAny _ _ (match Builtin.Slice.sliceAdjust lo hi 1 (n:Int) with |(lo,hi)=>pure (lo,(1:Int),Builtin.Slice.slicePlaces lo hi 1)) _ _ s;rw[Mr lo hi n];show wpAny _ _ (pure (((jm n 0 lo:Nat):Int),(1:Int),Builtin.Slice.slicePlaces ((jm n 0 lo:Nat):Int) ((jm n n hi:Nat):Int) 1)) _ _ s;rw[K4];exact aay h
theorem Uq(xs:Array Value)(i k:Nat):((List.range k).filterMap λ(m:Nat)=>xs[((i:Int)+(m:Int)*1).toNat]?).toArray=((xs.toList.drop i).take k).toArray:=by
 have e:(λ(m:Nat)=>xs[((i:Int)+(m:Int)*1).toNat]?)=λm=>xs[i+m]? :=by
  funext m;have:((i:Int)+(m:Int)*1).toNat=i+m:=by lia
  rw[this]
 rw[e];have:=pick_run xs i k;rw[List.filterMap_map] at this;have a:((λx=>xs[x]?)∘λx=>i+x)=λm=>xs[i+m]? :=Z;rw[a] at this;rw[this]
theorem vM{t:Addr}{lo hi:Option Int}(a:IsTup s.heap t items)(hs:s.heap.IsSliceOf sl vl vu .none)(pl:IsPart vl lo)(pu:IsPart vu hi)(hw:¬(jm items.size 0 lo=0/\jm items.size items.size hi=items.size))(h:Q (.ref s.heap.objs.size) {s with heap:=s.heap.push {cls:= .type "tuple",data:= .seq ((items.toList.drop (jm items.size 0 lo)).take (jm items.size items.size hi-jm items.size 0 lo)).toArray}})(g:items.size<=sizeLine):wpAny (model prog w) A (getItem (.ref t) (.ref sl)) Q E s:=by
 have b:sizeOk (.seq ((items.toList.drop (jm items.size 0 lo)).take (jm items.size items.size hi-jm items.size 0 lo)).toArray):=by
  show ((items.toList.drop (jm items.size 0 lo)).take (jm items.size items.size hi-jm items.size 0 lo)).toArray.size<=sizeLine;rw[aa8,acX,List.length_drop,aaH];lia
 have j:jm items.size items.size hi<=items.size:=abd _ _ (aaw _) hi;obtain⟨os,c,e,i⟩:=id hs;have f:s.TypeIs (.ref sl) "slice" :=⟨os,c,e⟩;unfold getItem
 try with_reducible refine wpAny_holding ?_
 first |refine aax (aay ?_)|skip
 refine aax (wpAny_sequenceKey a.typeIs (by decide) ?_)
 refine aax (wpAny_callSpecial?_slot (name:=Str.ofString "__getitem__") a.typeIs PyProof.Rows.slot_tuple_getitem
  (wpAny_call_entry PyProof.Rows.slot_tuple_getitem a.typeIs entry_tuple_getitem ?_ (args_tuple_getitem _ _)))
 show wpAny _ _ (Builtin.Tuple.tupleItemsOf (.ref t) >>= _) _ _ s;refine aax (tupleItemsOf_ a ?_);refine aax (wpAny_typeOf f ?_);rw[ac_ (by decide)];refine aax (wX hs pl pu ?_)
 have d:¬((((jm items.size 0 lo:Nat):Int)==0&&(1:Int)==1&&(jm items.size items.size hi-jm items.size 0 lo)==items.size)=true):=by
  intro q;rw[acg,acg] at q;have q1:((jm items.size 0 lo:Nat):Int)=0:=eq_of_beq q.1.1;have q2:jm items.size items.size hi-jm items.size 0 lo=items.size:=eq_of_beq q.2;exact hw ⟨by lia,by lia⟩
 show wpAny _ _ (if (((jm items.size 0 lo:Nat):Int)==0&&(1:Int)==1&&(jm items.size items.size hi-jm items.size 0 lo)==items.size)=true then _ else _) _ _ s;rw[ac9 d,Uq]
 first
  | exact aax (m:=Builtin.Tuple.tupleExact _) (wpAny_newObj_type (aay ⟨_,Z,aay h⟩) b)
  | exact aax (m:=Builtin.Tuple.tupleExact _) (wpAny_newObj_type (aax (aay (aay ⟨_,Z,aay h⟩))) b)
  | exact aax (aax (m:=Builtin.Tuple.tupleExact _) (wpAny_newObj_type (aay (aay ⟨_,Z,aay h⟩)) b))
  | exact aax (aax (m:=Builtin.Tuple.tupleExact _) (wpAny_newObj_type (aay ⟨_,Z,aay h⟩) b))
end
end HT
namespace L2
open PySem PySem.Spec PyProof.Rows
abbrev TO:=St->Hp->(Option Int->Hp->Prop)->Prop
def PO(X:Cx)(e:Option Expr)(t:TO):Prop:=
 ∀(pins:zzw)(s:Shared)(σ:St)(H:Hp)(Q:Option Int->Hp->Prop),Inv X pins σ H s->t σ H Q ->
  wpAny (model X.prog X.w) X.A (evalPart e X.env) (λu s'=>∃o H',Inv X pins σ H' s'/\IsPart u o/\Q o H') X.xe s
def Fq:TO:=λ_ H Q=>Q none H
inductive Nm(Q:Option Int->Hp->Prop)(x:V)(H1:Hp):Prop|m:∀i,x=.int i->Q (some i) H1->Nm Q x H1
def S_(t:TE):TO:=λσ H Q=>t σ H λx H1=>Nm Q x H1
section
variable{lo hi:Option Expr}{tl th:TO}
theorem mQ:PO X none Fq:=by
 intro a s b H Q I h;rw[evalPart_none];exact aay ⟨none,H,I,.none,h⟩
theorem mO(h:PE X e te):PO X (some e) (S_ te):=by
 intro a s b H Q I hw;rw[evalPart_some];refine dG (h a s b H _ I hw) λu g d=>?_;obtain⟨x,H1,f,c,q1⟩:=d;obtain⟨i,rfl,q⟩:=q1;obtain⟨t,rfl⟩:=c;exact⟨some i,H1,f,.int i t,q⟩
def SlR(X:Cx)(r:V->Option Int->Option Int->Hp->VK->Prop):Prop:=
 ∀(pins:zzw)(s:Shared)(σ:St)(H:Hp)(x:V)(v vl vu:Value)(lo hi:Option Int)(sl:Addr)(Q:VK),Inv X pins σ H s->RelV x v->s.heap.IsSliceOf sl vl vu .none->IsPart vl lo->IsPart vu hi->r x lo hi H Q ->
  ∃T id,typeLookup (.type T) "__getitem__" = pure (some (.builtin id))/\s.TypeIs v T/\wpAny (model X.prog X.w) X.A (getItem v (.ref sl)) (EP X pins σ Q) X.xe s
def tSl(r:V->Option Int->Option Int->Hp->VK->Prop)(c:TE)(a b:TO):TE:=λσ H Q=>c σ H λx H1=>a σ H1 λl H2=>b σ H2 λu d=>r x l u d Q
theorem jR{r:V->Option Int->Option Int->Hp->VK->Prop}(w:SlR X r)(he:PE X e te)(y:PO X lo tl)(p:PO X hi th):PE X (.Subscript e (.Slice lo hi none p2) pos) (tSl r te tl th):=by
 intro a s d H Q I h;refine Subscript_ (dG (he a s d H _ I h) λv m i=>?_);obtain⟨x,H1,E,n,q1⟩:=i;refine wpAny_Slice (dG (y a m d H1 _ E q1) λg k ⟨l,H2,D,o,q2⟩=>dG (p a k d H2 _ D q2) λf c i=>?_);obtain⟨u,j,C,pu,q3⟩:=i;rw[evalPart_none];refine aay ?_;have B:Inv X a d j {c with heap:=c.heap.push {cls:= .type "slice",data:= .fields #[g,f,.none]}}:=C.kept (t':=c.toks) λb F q=>aan _ q;obtain⟨T,id,A,t,z⟩:=w a {c with heap:=c.heap.push {cls:= .type "slice",data:= .fields #[g,f,.none]}} d j x v g f l u c.heap.objs.size Q B n (Heap.IsSliceOf.new ..) o pu q3;show wpAny (model X.prog X.w) X.A (subscriptTail e (.Slice lo hi none p2) v (.ref c.heap.objs.size)) (EP X a d Q) X.xe {c with heap:=c.heap.push {cls:= .type "slice",data:= .fields #[g,f,.none]}};exact tail_any (ops:=[.ref c.heap.objs.size,v]) t A z (by with_unfolding_all rfl)
def lY(xs:List V)(lo hi:Option Int):List V:=(xs.drop (HT.jm xs.length 0 lo)).take (HT.jm xs.length xs.length hi-HT.jm xs.length 0 lo)
theorem yE(xs:List V)(lo hi:Option Int):(lY xs lo hi).length<=xs.length:=by
 unfold lY;rw[acX,List.length_drop];lia
inductive abh(K:zzy)(x:V)(lo hi:Option Int)(H:Hp)(Q:VK):Prop|m:∀a xs,x=.ref a->cD K H a xs -> ¬(HT.jm xs.length 0 lo=0/\HT.jm xs.length xs.length hi=xs.length)->(∀p,H p=none->Q (.ref p) (upd H p (.tup (lY xs lo hi))))->abh K x lo hi H Q
theorem aa_:SlR X (abh X.K):=by
 intro i s t H x v w u e g y Q I l p m pu h;obtain⟨a,d,rfl,n,hw,q⟩:=h;cases l;obtain⟨f,r,k,j⟩:=I.tuple n;have c:f.toArray.size=d.length:=by rw[aa8];exact r.length.symm
 refine⟨"tuple",_,PyProof.Rows.slot_tuple_getitem.lookup,k.typeIs,?_⟩;refine HT.vM k p m pu (by rw[c];exact hw) ?_ (by rw[c];exact j);rw[c];refine⟨.ref s.heap.objs.size,_,I.laid (t':=s.toks) (o:= .tup (lY d e g)) (λb z q=>aan _ q) (aaw _) ?_,Z,q _ (I.hok.fresh (aaw _))⟩;exact⟨ac5 (yE d e g) j,_,(r.drop (HT.jm d.length 0 e)).take (HT.jm d.length d.length g-HT.jm d.length 0 e),IsTup.new _ _⟩
theorem Vals.Oq(r:Vals xs us):us=[]↔xs=[]:=by
 cases r with
 | nil=>simp
 | cons _ _=>simp
end
def QV(n:Nat)(i:Int):Option Nat:=if 0<=i then (if i<n then some i.toNat else none) else if -(n:Int)<=i then some (i+n).toNat else none
def wG{α:Type}(xs:List α)(i:Int):Option α:=(QV xs.length i).bind λj=>xs[j]?
theorem Ox{i:Int}(h:QV n i=some j):seqIndex? i n=some j/\j<n /\ -(n:Int)<=i/\i<n:=by
 unfold QV at h
 by_cases b:0<=i
 .rw[ac_ b] at h
  by_cases a:i<n
  .rw[ac_ a] at h
   have e:i.toNat=j:=abe h;exact⟨by rw[seqIndex_of b a,e],by lia,by lia,a⟩
  .rw[ac9 a] at h;cases h
 .rw[ac9 b] at h
  by_cases a: -(n:Int)<=i
  .rw[ac_ a] at h
   have e:(i+n).toNat=j:=abe h;exact⟨by rw[seqIndex_neg (by lia) a,e],by lia,a,by lia⟩
  .rw[ac9 a] at h;cases h
theorem Hv{α:Type}{xs:List α}{i:Int}{v:α}(h:wG xs i=some v):∃j,seqIndex? i xs.length=some j/\xs[j]?=some v/\j<xs.length /\ -(xs.length:Int)<=i/\i<xs.length:=by
 unfold wG at h;cases e:QV xs.length i with
 | none=>rw[e] at h;cases h
 | some j=>
   rw[e] at h;obtain⟨d,c,b,a⟩:=Ox e;exact⟨j,d,h,c,b,a⟩
theorem bL{α:Type}{xs:List α}{v:α}(h:xs[j]?=some v):wG xs (j:Int)=some v:=by
 have a:j<xs.length:=(aak.mp h).1
 have e:QV xs.length (j:Int)=some j:=by
  unfold QV;rw[ac_ (by lia),ac_ (by lia)];simp
 unfold wG;rw[e];exact h
def ZM(b:Expr):Prop:=∀o i,subscripted b false o i=operate [o,i] (getItem o i)
def IxR(X:Cx)(r:R2):Prop:=
 ∀(value slice:Expr)(pins:zzw)(s:Shared)(σ:St)(H:Hp)(x y:V)(v u:Value)(Q:VK),Inv X pins σ H s->RelV x v->RelV y u->r x y H Q ->
  subscripted slice false v u=operate [v,u] (getItem v u)->wpAny (model X.prog X.w) X.A (subscriptTail value slice v u) (EP X pins σ Q) X.xe s
def MtR(X:Cx)(id:String)(r:V->List V->Hp->VK->Prop):Prop:=
 ∀(pins:zzw)(s:Shared)(σ:St)(H:Hp)(x:V)(xs:List V)(v:Value)(us:zzt)(Q:VK),Inv X pins σ H s->RelV x v->Vals xs us->r x xs H Q ->
  wpAny (model X.prog X.w) X.A (call (.builtin id) (v::us)) (EP X pins σ Q) X.xe s
section
variable{a b:Expr}{tb:TE}
theorem aO{r:R2}(i:IxR X r)(k:PE X a ta)(j:PE X b tb)(hs:ZM b):PE X (.Subscript a b pos) (CJ r ta tb):=by
 intro c s d H Q I h;exact Subscript_ (acA k j I h λv u e x y H2 l g f q=>i a b c e d H2 x y v u Q l g f q (hs _ _))
inductive qL(K:zzy)(x y:V)(H:Hp)(Q:VK):Prop|m:∀p xs i v,x=.ref p->y=.int i->bG K H p xs->wG xs i=some v->Q v H->qL K x y H Q
inductive Ua(K:zzy)(x y:V)(H:Hp)(Q:VK):Prop|m:∀p xs i v,x=.ref p->y=.int i->cD K H p xs->wG xs i=some v->Q v H->Ua K x y H Q
inductive ad4(x y:V)(H:Hp)(Q:VK):Prop|m:∀z i c,x=.str z->y=.int i->z.length<=sizeLine->wG z.cps.toList i=some c->Q (.str ⟨#[c]⟩) H->ad4 x y H Q
theorem Y6:IxR X (qL X.K):=by
 intro value slice a s k H x y v u Q I B A h l;obtain⟨p,K,i,z,rfl,rfl,C,E,q⟩:=h;cases B;obtain⟨t,rfl⟩:=A;obtain⟨f,r,e,L⟩:=I.list C;obtain⟨j,c,J,N,G,F⟩:=Hv E;obtain⟨w,n,d⟩:=r.get J;have D:=r.length;have M:=uh;have b:EP X a k Q w s:=⟨z,H,I,d,q⟩
 by_cases m:0<=i
 .have g:i.toNat=j:=by
   rw[seqIndex_of m F] at c;exact abe c
  exact item_listR e.isList m (by lia) (by rw[g];simpa using n) b l
 .have g:(i+(f.toArray.size:Int)).toNat=j:=by
   rw[seqIndex_neg (by lia) G] at c;rw[aa8,←D];exact abe c
  exact subscriptTail_builtinR (x:=w) e.isList.typeIs slot_list_getitem.lookup
   (wpAny_getItem_list_neg (Q:=λr o=>r=w/\EP X a k Q r o) e.isList (by lia) (by rw[aa8]<;>lia) (by lia) (by rw[g];simpa using n) ⟨Z,b⟩) l
theorem ab6:IxR X (Ua X.K):=by
 intro value slice a s d H x y v u Q I k g h m;obtain⟨p,E,i,z,rfl,rfl,n,A,q⟩:=h;cases k;obtain⟨t,rfl⟩:=g;obtain⟨l,r,e,F⟩:=I.tuple n;obtain⟨j,C,B,L,K,J⟩:=Hv A;obtain⟨w,D,b⟩:=r.get B;have o:=r.length;have G:=uh;have c:EP X a d Q w s:=⟨z,H,I,b,q⟩
 exact subscriptTail_builtinR (x:=w) e.typeIs slot_tuple_getitem.lookup
  (getItem_tuple (j:=j) (Q:=λr f=>r=w/\EP X a d Q r f) e (by lia) (by lia) (by rw[aa8,←o];exact C) (by simpa using D) ⟨Z,c⟩) m
theorem Lq:IxR X ad4:=by
 intro value slice a s r H x y v u Q I e d h f;obtain⟨z,i,c,rfl,rfl,A,k,q⟩:=h;obtain⟨t,rfl⟩:=e;obtain⟨w,rfl⟩:=d;obtain⟨j,b,n,C,m,l⟩:=Hv k;have g:z.cps.toList.length=z.length:=by simp[Str.length]
 rw[g] at b m l;have B:=uh
 exact tail_any (typeIs_str s z t) slot_str_getitem.lookup (getItem_str (c:=c) (by
  have p:decide (i < -(2 ^ 63:Int))=false:=aaQ (by lia);have o:decide (i≥2 ^ 63)=false:=aaQ (by lia);rw[p,o,Bool.or_false]) (by rw[b];simpa using n) ⟨.str ⟨#[c]⟩,H,I.tok _,⟨_,Z⟩,q⟩) f
theorem Lf(a:zzt)(n j:Nat)(u:Value):Obj.mapSeq (·.setIfInBounds j u) {cls:= .type "list",data:= .seq a.toArray n}={cls:= .type "list",data:= .seq (a.set j u).toArray n}:=by
 simp[Obj.mapSeq]
theorem Inv.lst{a:zzw}{b:St}{H:Hp}{s:Shared}{p:Addr}{xs:List V}(I:Inv X a b H s)(h:H p=some (.lst xs)):
 ∃(its:zzt) (n:Nat),Vals xs its/\s.heap.get? p=some {cls:= .type "list",data:= .seq its.toArray n}/\xs.length<=sizeLine:=by
 obtain⟨z,its,n,r,e⟩:=I.hok p _ h;exact⟨its,n,r,e,z⟩
theorem Inv.abY{a:Nat}{f:Obj->Obj}(I:Inv X pins σ H s)(h:H p=some (.lst xs))(g:s.heap.get? p=some {cls:= .type "list",data:= .seq its.toArray n})(c:f {cls:= .type "list",data:= .seq its.toArray n}={cls:= .type "list",data:= .seq its'.toArray a})(r:Vals ys its')(d:ys.length<=sizeLine)(t:Nat):
 Inv X pins σ (upd H p (.lst ys)) {s with heap:=s.heap.update p f,toks:=t}:=by
 have e:(s.heap.update p f).get? p=some {cls:= .type "list",data:= .seq its'.toArray a}:=by
  rw[Heap.get?_update_self f g (by rw[c]<;>rfl),c]
 refine I.write (x:=p) (e:=p) (by rw[h];trivial) (.inl rfl) (λb u i q=>(Heap.get?_update_other _ _ (Ne.symm i)).trans q) ⟨_,e⟩ ?_;exact⟨d,its',a,r,e⟩
inductive Oa(o i v:V)(H:Hp)(Q:(Hp->Prop)):Prop|m:∀p xs k j,o=.ref p->i=.int k->H p=some (.lst xs)->QV xs.length k=some j->Q (upd H p (.lst (xs.set j v)))->Oa o i v H Q
theorem set_list:acK X Oa:=by
 intro a s y H o i v F G u Q I B C A h;obtain⟨p,z,k,j,rfl,rfl,g,E,q⟩:=h;cases B;obtain⟨t,rfl⟩:=C;obtain⟨b,n,r,d,D⟩:=I.lst g;obtain⟨c,K,m,l⟩:=Ox E;have e:=r.length;have J:=uh
 have x:Inv X a y (upd H p (.lst (z.set j v))) {s with heap:=s.heap.update p (Obj.mapSeq (·.setIfInBounds j u))}:=
  I.abY g d (Lf b n j u) (r.set A j) (by rw[acW];exact D) s.toks
 by_cases w:0<=k
 .have f:k.toNat=j:=by
   rw[seqIndex_of w l] at c;exact abe c
  exact W.ki_setAt d w (by lia) (by rw[aa8,←e];exact l) (by rw[f];exact⟨_,x,q⟩)
 .have f:(k+(b.toArray.size:Int)).toNat=j:=by
   rw[seqIndex_neg (by lia) m] at c;rw[aa8,←e];exact abe c
  exact W.ki_setBack d (by lia) (by rw[aa8,←e];exact m) (by lia) (by rw[f];exact⟨_,x,q⟩)
theorem FP(lo hi:Option Int)(n:Nat):(sliceBounds lo hi none n).1=((HT.jm n 0 lo:Nat):Int)/\(sliceBounds lo hi none n).2.1=((HT.jm n n hi:Nat):Int)/\(sliceBounds lo hi none n).2.2=1:=by
 refine⟨?_,?_,Z⟩
 .cases lo with
  | none=>simp[sliceBounds,HT.jm]
  | some i=>
    simp only[sliceBounds,HT.jm,Option.getD_none,show (1:Int)>0 by decide,if_true]
    by_cases h:i<0
    .simp only[h,if_true]<;>lia
    .simp only[h,if_false]<;>lia
 .cases hi with
  | none=>simp[sliceBounds,HT.jm]
  | some i=>
    simp only[sliceBounds,HT.jm,Option.getD_none,show (1:Int)>0 by decide,if_true]
    by_cases h:i<0
    .simp only[h,if_true]<;>lia
    .simp only[h,if_false]<;>lia
theorem CP(a:zzt)(lo hi:Option Int):slicePick a.toArray lo hi none=((a.drop (HT.jm a.length 0 lo)).take (HT.jm a.length a.length hi-HT.jm a.length 0 lo)).toArray:=by
 obtain⟨d,c,b⟩:=FP lo hi a.toArray.size;unfold slicePick;rw[d,c,b];simp only[sliceRange_one,pick_run,aa8]<;>rfl
inductive T_(K:zzy)(x:V)(lo hi:Option Int)(H:Hp)(Q:VK):Prop|m:∀a xs,x=.ref a->bG K H a xs->(∀p,H p=none->Q (.ref p) (upd H p (.lst (lY xs lo hi))))->T_ K x lo hi H Q
theorem XQ:SlR X (T_ X.K):=by
 intro g s t H x v w u e f y Q I j p k pu h;obtain⟨a,c,rfl,n,q⟩:=h;cases j;obtain⟨l,r,i,m⟩:=I.list n;have d:=r.length;refine⟨"list",_,slot_list_getitem.lookup,i.isList.typeIs,?_⟩;refine wpAny_getItem_list_slice i.isList p k pu .none (by simp) ?_ (by rw[aa8]<;>lia);rw[CP,←d];refine⟨.ref s.heap.objs.size,_,I.laid (t':=s.toks) (o:= .lst (lY c e f)) (λb z q=>aan _ q) (aaw _) ?_,Z,q _ (I.hok.fresh (aaw _))⟩;exact⟨ac5 (yE c e f) m,_,0,(r.drop (HT.jm c.length 0 e)).take (HT.jm c.length c.length f-HT.jm c.length 0 e),aao _ rfl⟩
def vQ:V->Bool
 | .non=>true
 | .bl _=>true
 | .int _=>true
 | .str _=>true
 | _=>false
def Wf:V->V->Bool
 | .non,.non=>true
 | .bl a,.bl b=>a==b
 | .bl a,.int b=>(if a then 1 else 0)==b
 | .int a,.bl b=>a==(if b then 1 else 0)
 | .int a,.int b=>a==b
 | .str a,.str b=>a==b
 | _,_=>false
theorem acp{x:V}{v:Value}(e:RelV y u)(c:RelV x v)(g:vQ y=true)(f:vQ x=true):SeqAt.EqAt A s u v (Wf y x):=by
 cases y with
 | non=>
   cases e;cases x with
   | non=>cases c;exact SeqAt.EqAt.same _
   | bl b=>cases c;exact SeqAt.EqAt.none_bool b
   | int b=>obtain⟨t,rfl⟩:=c;exact SeqAt.EqAt.none_int b t
   | str b=>obtain⟨t,rfl⟩:=c;exact SeqAt.EqAt.none_str b t
   | _=>exact ac' (show false=true from f) aaV
 | bl a=>
   cases e;cases x with
   | non=>cases c;exact SeqAt.EqAt.bool_none a
   | bl b=>cases c;exact SeqAt.EqAt.bool_bool a b
   | int b=>obtain⟨t,rfl⟩:=c;exact SeqAt.EqAt.bool_int a b t
   | str b=>obtain⟨t,rfl⟩:=c;exact SeqAt.EqAt.bool_str a b t
   | _=>exact ac' (show false=true from f) aaV
 | int a=>
   obtain⟨d,rfl⟩:=e;cases x with
   | non=>cases c;exact SeqAt.EqAt.int_none a d
   | bl b=>cases c;exact SeqAt.EqAt.int_bool a d b
   | int b=>obtain⟨t,rfl⟩:=c;exact SeqAt.EqAt.int_int a d b t
   | str b=>obtain⟨t,rfl⟩:=c;exact SeqAt.EqAt.int_str a d b t
   | _=>exact ac' (show false=true from f) aaV
 | str a=>
   obtain⟨d,rfl⟩:=e;cases x with
   | non=>cases c;exact SeqAt.EqAt.str_none a d
   | bl b=>cases c;exact SeqAt.EqAt.str_bool a d b
   | int b=>obtain⟨t,rfl⟩:=c;exact SeqAt.EqAt.str_int a d b t
   | str b=>obtain⟨t,rfl⟩:=c;exact SeqAt.EqAt.str_str a d b t
   | _=>exact ac' (show false=true from f) aaV
 | _=>exact ac' (show false=true from g) aaV
def Zr(x:V)(u:Value):Bool:=match u with
 | .none=>Wf .non x
 | .bool b=>Wf (.bl b) x
 | .int i _=>Wf (.int i) x
 | .str z _=>Wf (.str z) x
 | _=>false
theorem Wg{x:V}(r:RelV y u)(f:vQ y=true):Zr x u=Wf y x:=by
 cases y with
 | non=>cases r;rfl
 | bl b=>cases r;rfl
 | int i=>obtain⟨t,rfl⟩:=r;rfl
 | str z=>obtain⟨t,rfl⟩:=r;rfl
 | _=>exact ac' (show false=true from f) aaV
theorem Hw{x:V}:∀{xs:List V}{us:zzt},Vals xs us->xs.all vQ=true->us.any (Zr x)=xs.any λy=>Wf y x
 | _,_,.nil,_=>rfl
 | y::xs,u::us,.cons r t,f=>by
   rw[List.all_cons,acg] at f;rw[List.any_cons,List.any_cons,Wg r f.1,Hw t f.2]
theorem Bx{A:Around}{s:Shared}{x:V}{v:Value}(b:RelV x v)(c:vQ x=true):∀{xs:List V}{us:zzt},Vals xs us->xs.all vQ=true -> ∀u∈us,SeqAt.EqAt A s u v (Zr x u)
 | _,_,.nil,_=>λu a=>by cases a
 | y::xs,u::us,.cons r t,f=>λd a=>by
   rw[List.all_cons,acg] at f;rcases List.mem_cons.mp a with rfl|a
   .rw[Wg r f.1];exact acp r b f.1 c
   .exact Bx b c t f.2 d a
def inV(x:V)(xs:List V):Bool:=xs.any λy=>Wf y x
inductive rIn(K:zzy)(neg:Bool)(x y:V)(H:Hp)(Q:VK):Prop|m:∀p xs,y=.ref p->(bG K H p xs\/cD K H p xs)->vQ x=true->xs.all vQ=true->(Q (.bl (if neg then !inV x xs else inV x xs)) H)->rIn K neg x y H Q
theorem Qt:sZ X (compareOp .In) (rIn X.K false):=by
 intro f s k H x y v u Q I e i h;obtain⟨p,l,rfl,b,g,c,q⟩:=h;cases i;rcases b with b|b
 .obtain⟨a,r,d,j⟩:=I.list b
  refine SeqAt.in_listAt (Zr x) d.isList (λw hw=>Bx e g r c w (by simpa using hw)) ⟨.bl _,H,I,Z,?_⟩;rw[show a.toArray.any (Zr x)=a.any (Zr x) by simp,Hw r c];exact q
 .obtain⟨a,r,d,j⟩:=I.tuple b
  refine SeqAt.in_tupleAt (Zr x) d (λw hw=>Bx e g r c w (by simpa using hw)) ⟨.bl _,H,I,Z,?_⟩;rw[show a.toArray.any (Zr x)=a.any (Zr x) by simp,Hw r c];exact q
theorem Hr:jt X (.builtin "len") (λxs H Q=>∃p ys,xs=[.ref p]/\(bG X.K H p ys\/cD X.K H p ys)/\Q (.int ys.length) H):=by
 intro f s j H xs k Q I r h;obtain⟨p,ys,rfl,b,q⟩:=h;obtain⟨u,rfl,g⟩:=vals1 r;cases g;have l:=uh;rcases b with b|b
 .obtain⟨e,c,d,i⟩:=I.list b
  have a:=c.length;exact Calls.call_len_list d.isList (by simp only[aa8]<;>lia) ⟨.int ys.length,H,I.tok _,⟨s.toks+1,by rw[aa8,a]⟩,q⟩
 .obtain⟨e,c,d,i⟩:=I.tuple b
  have a:=c.length;exact len_tuple d (by simp only[aa8]<;>lia) ⟨.int ys.length,H,I.tok _,⟨s.toks+1,by rw[aa8,a]⟩,q⟩
theorem Hq:jt X (.type "list") (λxs H Q=>∃p ys,xs=[.ref p]/\(bG X.K H p ys\/cD X.K H p ys) /\ ∀l,H l=none->Q (.ref l) (upd H l (.lst ys))):=by
 intro g s A H xs C Q I r h;obtain⟨p,ys,rfl,k,q⟩:=h;obtain⟨u,rfl,B⟩:=vals1 r;cases B
 have t:∀(a:zzt),Vals ys a->ys.length<=sizeLine -> ∀(c:Heap)(f:Nat),(∀b z,s.heap.get? b=some z->c.get? b=some z) ->
  c.get? s.heap.objs.size=some {cls:= .type "list",dict:=none,data:= .seq a.toArray f,slots:= #[]}->EP X g A Q (.ref s.heap.objs.size) {s with heap:=c}:=λa d j c f i e=>
  ⟨.ref s.heap.objs.size,_,I.laid (t':=s.toks) i (aaw _) (show dM X.prog X.w _ c _ (.lst ys) from ⟨j,a,f,d,e⟩),Z,q _ (I.hok.fresh (aaw _))⟩
 rcases k with k|k
 .obtain⟨a,d,v,j⟩:=I.list k
  have m:=d.length;obtain⟨o,w,y,n,x⟩:=v.isList;exact call_list_seq p (.inl rfl) w y x (λc f i e=>t a d j c f i e) (by simp only[aa8]<;>lia)
 .obtain⟨a,d,v,j⟩:=I.tuple k
  have m:=d.length;obtain⟨o,w,y,n,x⟩:=v;exact call_list_seq p (.inr rfl) w y x (λc f i e=>t a d j c f i e) (by simp only[aa8]<;>lia)
def tyV(K:zzy)(T:String)(x:V)(H:Hp):Prop:=match x with
 | .str _=>T = "str"
 | .int _=>T = "int"
 | .ref p=>(T = "list" /\ ∃xs,bG K H p xs)\/(T = "tuple" /\ ∃o,K.lookup p=some o/\o.cls=.type "tuple" /\ o.dict=none) \/
    (T = "dict" /\ ((∃kvs,H p=some (.dK kvs)) \/ ∃kvs,H p=some (.dT kvs)))\/(T = "set" /\ ∃S n,H p=some (.set S n))
 | _=>False
theorem Sv{x:V}{v:Value}(I:Inv X pins σ H s)(r:RelV x v)(ty:tyV X.K T x H):
 s.TypeIs v T /\ ∀a,v=.ref a -> ∃ob,s.heap.get? a=some ob/\ob.dict=none:=by
 cases x with
 | str z=>
   obtain⟨t,rfl⟩:=r;cases (show T = "str" from ty);exact⟨typeIs_str s z t,λ_ e=>nomatch e⟩
 | int i=>
   obtain⟨t,rfl⟩:=r;cases (show T = "int" from ty);exact⟨typeIs_int s i t,λ_ e=>nomatch e⟩
 | ref p=>
   cases r;rcases ty with ⟨rfl,m,k⟩|⟨rfl,o,b,l,f⟩|⟨rfl,b⟩|⟨rfl,S,n,b⟩
   .obtain⟨j,_,h,_⟩:=I.list k
    refine⟨h.isList.typeIs,λa e=>?_⟩;cases e;obtain⟨o,n,e,c,f,_⟩:=h;exact⟨o,e,f⟩
   .refine⟨⟨o,I.oH p o b,l⟩,λa e=>?_⟩
    cases e;exact⟨o,I.oH _ o b,f⟩
   .have z:∃o,s.heap.get? p=some o/\o.ExactDict:=by
     rcases b with ⟨d,b⟩|⟨d,b⟩
     .obtain⟨_,_,_,_,o,_,_,e,ex,_⟩:=I.hok p _ b
      exact⟨o,e,ex⟩
     .obtain⟨_,_,_,_,o,_,_,e,ex,_⟩:=I.hok p _ b
      exact⟨o,e,ex⟩
    obtain⟨o,e,ex⟩:=z;refine⟨⟨o,e,ex.1⟩,λa g=>?_⟩;cases g;exact⟨o,e,ex.2.1⟩
   .obtain⟨o,_,_,_,e,ex,_⟩:=I.hok p _ b
    refine⟨⟨o,e,ex.1⟩,λa g=>?_⟩;cases g;exact⟨o,e,ex.2.1⟩
 | _=>exact False.elim ty
def adO(K:zzy)(T:String)(r:V->List V->Hp->VK->Prop)(to:TE):TE:=λσ H Q=>to σ H λx H1=>tyV K T x H1/\r x [] H1 Q
def tBM(K:zzy)(T:String)(r:V->List V->Hp->VK->Prop)(to:TE)(t:TA):TE:=λσ H Q=>to σ H λx H1=>tyV K T x H1/\t σ H1 λxs H2=>r x xs H2 Q
variable{o:Expr}{t:TA}{id:String}{r:V->List V->Hp->VK->Prop}
theorem abw(j:PlainAttrs T)(slot:Slot T name id)(d:typeOf (.builtin id)=pure (.type "method_descriptor"))(l:MtR X id r)(k:PE X o to)(c:attributeBase o name X.env (eval o X.env)=eval o X.env:=by rfl)(b:(apos.endLine==cpos.line)=true:=by rfl):PE X (.Call (.Attribute o name apos) [] [] cpos) (adO X.K T r to):=by
 intro a s e H Q I h;refine wpAny_Call_method0_late c b (dG (k a s e H _ I h) λv i p=>?_);obtain⟨x,H1,g,f,ty,q1⟩:=p;obtain⟨n,m⟩:=Sv g f ty;exact⟨T,id,j,slot,d,n,m,Calls.callWith_builtin rfl (PySem.evalArgs_none (l a i e H1 x [] v [] Q g f .nil q1))⟩
theorem aaf(w:PlainAttrs T)(slot:Slot T name id)(i:typeOf (.builtin id)=pure (.type "method_descriptor"))(z:MtR X id r)(y:PE X o to)(A:PA X (e::es) t)(d:attributeBase o name X.env (eval o X.env)=eval o X.env:=by rfl)(f:((backTo cpos (starEach (e::es) X.env)).all (λx=> !x.1)&&(backToKw cpos (keywordEach [] X.env)).all (λx=>x.1.isSome)
   && decide ((e::es).length+([]:List Keyword).length+(if ([]:List Keyword).isEmpty then 0 else 1)<30))=true:=by rfl)(c:(apos.endLine==cpos.line)=true:=by rfl)(hs:starEach (e::es) X.env=(false,eval e X.env)::starEach es X.env:=by rfl)(b:(backTo cpos (starEach es X.env)).any (·.1)=false:=by rfl):
 PE X (.Call (.Attribute o name apos) (e::es) [] cpos) (tBM X.K T r to t):=by
 intro a s g H Q I h;refine wpAny_Call_method_late d f c rfl (dG (y a s g H _ I h) λv q D=>?_);obtain⟨x,H1,l,j,ty,q1⟩:=D;obtain⟨C,B⟩:=Sv l j ty;refine⟨T,id,w,slot,i,C,B,?_⟩;have k:=A cpos a q g H1 _ l q1;rw[hs] at k ⊢;refine Calls.callWith_builtin (by show (false||(backTo cpos (starEach es X.env)).any (·.1))=false;rw[b]<;>rfl) (Calls.evalArgs_plain ?_);exact dG k λn p ⟨m,H2,E,u,q2⟩=>z a p g H2 x m v n Q E j u q2
end
def MtM(X:Cx)(id:String)(r:V->List V->Hp->VK->Prop):Prop:=
 ∀(pins:zzw)(s:Shared)(σ:St)(H:Hp)(x:V)(xs:List V)(v:Value)(us:zzt)(Q:VK),Inv X pins σ H s->RelV x v->Vals xs us->r x xs H Q ->
  wpAny (model X.prog X.w) X.A (call (.builtin id) (v::us)) (EP X pins σ Q) X.xe s
theorem Vals.one{x:V}(h:Vals [x] us):∃u,us=[u]/\RelV x u:=by
 cases h with
 | cons r t=>cases t;exact⟨_,Z,r⟩
theorem Vals.zero:∀{us:zzt},Vals [] us->us=[]
 | _,.nil=>rfl
theorem Vals.rep{xs:List V}{us:zzt}(h:Vals xs us):∀k:Nat,Vals (List.replicate k xs).flatten (List.replicate k us).flatten
 | 0=> .nil
 | k+1=>by
   rw[List.replicate_succ,List.replicate_succ,List.flatten_cons,List.flatten_cons];exact Vals.append h (Vals.rep h k)
theorem foldl_rep(a:zzt):∀(k:Nat)(b:zzt),
 List.foldl (λx1 c=>x1++c) b.toArray (List.replicate k a.toArray)=(b++(List.replicate k a).flatten).toArray
 | 0,b=>by simp
 | k+1,b=>by
   have e:b.toArray++a.toArray=(b++a).toArray:=by simp
   have d:(b++a)++(List.replicate k a).flatten=b++(List.replicate (k+1) a).flatten:=by
    rw[List.replicate_succ,List.flatten_cons,List.append_assoc]
   rw[←d,←foldl_rep a k (b++a),←e,List.replicate_succ,List.foldl_cons]
section
variable{l:Addr}{zs:List V}
theorem Inv.abZ{f:Array Value->Array Value}(I:Inv X pins σ H s)(h:H l=some (.lst xs))(e:s.heap.get? l=some {cls:= .type "list",data:= .seq its.toArray n})(d:f its.toArray=its'.toArray)(b:Vals ys its')(a:ys.length<=sizeLine):
 Inv X pins σ (upd H l (.lst ys)) {s with heap:=s.heap.update l (Obj.mapSeq f),toks:=t'}:=by
 have q:=PySem.IsL.update e f;rw[d] at q;refine I.write (x:=l) (e:=l) (by rw[h];exact trivial) (.inl rfl) (λi u g c=>(Heap.get?_update_other s.heap (Obj.mapSeq f) (Ne.symm g)).trans c) ⟨_,q⟩ ?_;exact⟨a,its',_,b,q⟩
theorem Inv.aem(I:Inv X pins σ H s)(b:Vals ys its)(a:ys.length<=sizeLine):
 Inv X pins σ (upd H s.heap.objs.size (.lst ys)) {s with heap:=s.heap.push {cls:= .type "list",data:= .seq its.toArray},toks:=t'}:=
 I.laid (λ_ _ q=>aan _ q) (aaw _) ⟨a,its,0,b,aao _ rfl⟩
theorem Inv.fresh(I:Inv X pins σ H s):H s.heap.objs.size=none:=I.hok.fresh (aaw _)
theorem Inv.Li(I:Inv X pins σ H s)(a:H l=some (.lst xs)):xs.length<=sizeLine /\ ∃(its:zzt) (n:Nat),Vals xs its/\xs.length=its.length/\s.heap.get? l=some {cls:= .type "list",data:= .seq its.toArray n}:=by
 obtain⟨z,its,n,r,e⟩:=I.hok l _ a;exact⟨z,its,n,r,r.length,e⟩
theorem Jh(h:n<=sizeLine):Builtin.List.listTooLong n=false:=by
 unfold Builtin.List.listTooLong;exact aaQ (by lia)
end
inductive vp(x:V)(vs:List V)(H:Hp)(Q:VK):Prop|m:∀l xs y,x=.ref l->vs=[y]->H l=some (.lst xs)->xs.length<sizeLine->Q .non (upd H l (.lst (xs++[y])))->vp x vs H Q
theorem D_:MtM X "list.append" vp:=by
 intro b s i H x k v m Q I d f h;obtain⟨l,j,y,rfl,rfl,c,o,q⟩:=h;cases d;obtain⟨u,rfl,g⟩:=f.one;obtain⟨z,a,n,r,p,e⟩:=I.Li c;refine call_meets F.slot_list_append ⟨_,e,Z⟩ F.entry_list_append (F.args_list_append_2 _ _) (PySem.list_append l a.toArray n u (by rw[aa8];lia)) ⟨e,?_⟩;refine⟨.non,_,I.abZ (its':=a++[u]) c e (by simp) (r.append (.cons g .nil)) ?_,Z,q⟩;rw[abf,acT];lia
inductive Ob(x:V)(vs:List V)(H:Hp)(Q:VK):Prop|m:∀l b xs zs,x=.ref l->vs=[.ref b]->H l=some (.lst xs)->H b=some (.lst zs)->xs.length+zs.length<=sizeLine->Q .non (upd H l (.lst (xs++zs)))->Ob x vs H Q
theorem QK:MtM X "list.extend" Ob:=by
 intro f s A H x D v E Q I i j h;obtain⟨l,b,C,zs,rfl,rfl,g,t,G,q⟩:=h;cases i;obtain⟨u,rfl,k⟩:=j.one;cases k;obtain⟨z,c,n,r,J,e⟩:=I.Li g;obtain⟨B,a,o,m,p,w⟩:=I.Li t;have d:c.toArray.size+a.toArray.size<=sizeLine:=by rw[aa8,aa8];lia
 have y:¬(!c.toArray.isEmpty&&Builtin.List.listTooLong (c.toArray.size+a.toArray.size))=true:=by
  rw[Jh d,Bool.and_false];exact aaV
 refine call_meets F.slot_list_extend ⟨_,e,Z⟩ F.entry_list_extend (F.args_list_extend_2 _ _)
  (AutoSeq1.list_extend_list_list_0 l c.toArray n b a.toArray o y (by rw[aa8];lia) (by lia)) ⟨e,w,?_⟩
 refine⟨.non,_,I.abZ (its':=c++a) g e (by simp) (r.append m) ?_,Z,q⟩;rw[abf];lia
inductive Uc(x:V)(vs:List V)(H:Hp)(Q:VK):Prop|m:∀l xs,x=.ref l->vs=[]->H l=some (.lst xs)->Q .non (upd H l (.lst []))->Uc x vs H Q
theorem Jj:MtM X "list.clear" Uc:=by
 intro c s i H x k v m Q I f g h;obtain⟨l,j,rfl,rfl,d,q⟩:=h;cases f;have b:=g.zero;subst b;obtain⟨z,a,n,r,o,e⟩:=I.Li d;refine call_meets F.slot_list_clear ⟨_,e,Z⟩ F.entry_list_clear (F.args_list_clear_1 _) (AutoSeq1.list_clear_list_0 l a.toArray n (by rw[aa8];lia)) ⟨e,?_⟩;exact⟨.non,_,I.abZ (its':=[]) (ys:=[]) d e rfl .nil (Nat.zero_le _),Z,q⟩
inductive ad7(x y:V)(H:Hp)(Q:VK):Prop|m:∀l b xs zs,x=.ref l->y=.ref b->H l=some (.lst xs)->H b=some (.lst zs)->xs.length+zs.length<=sizeLine->(∀p,H p=none->Q (.ref p) (upd H p (.lst (xs++zs))))->ad7 x y H Q
theorem UW:sZ X (binaryOp .Add) ad7:=by
 intro d s t H x y v u Q I g f h;obtain⟨l,b,A,zs,rfl,rfl,k,m,C,q⟩:=h;cases g;cases f;obtain⟨z,c,n,r,D,e⟩:=I.Li k;obtain⟨w,a,B,i,j,p⟩:=I.Li m;refine PySem.P.add_list e p ?_ (by rw[aa8,aa8];lia);have o:c.toArray++a.toArray=(c++a).toArray:=by simp
 rw[o];exact⟨.ref _,_,I.aem (t':=s.toks) (r.append i) (by rw[abf];lia),Z,q _ I.fresh⟩
inductive ad2(x y:V)(H:Hp)(Q:VK):Prop|m:∀l k xs,x=.ref l->y=.int k->H l=some (.lst xs) -> -(2 ^ 63)<=k->k<2 ^ 63->xs.length*k.toNat<=sizeLine->(∀p,H p=none->Q (.ref p) (upd H p (.lst (List.replicate k.toNat xs).flatten)))->ad2 x y H Q
theorem len_rep{α:Type}(xs:List α)(k:Nat):(List.replicate k xs).flatten.length=k*xs.length:=by
 induction k with
 | zero=>simp
 | succ k a=>rw[List.replicate_succ,List.flatten_cons,abf,a,Nat.succ_mul,Nat.add_comm]
theorem K7:sZ X (binaryOp .Mult) ad2:=by
 intro o s L H x y v u Q I B A h;obtain⟨l,k,M,rfl,rfl,D,G,E,p,q⟩:=h;cases B;obtain⟨t,rfl⟩:=A;obtain⟨z,b,n,r,C,e⟩:=I.Li D;have d:b.toArray.size*k.toNat<=sizeLine:=by rw[aa8,←C];exact p
 have g:¬b.toArray.size*k.toNat>(2 ^ 63-1) / 8:=by
  have:(sizeLine:Nat)<=(2 ^ 63-1) / 8:=by decide
  lia
 have f:¬(!Builtin.List.listFitsIndex k)=true:=by
  rw[fitsIndex_both G E];exact aaV
 have K:¬Builtin.List.listTooLong (b.toArray.size*k.toNat)=true:=by
  rw[Jh d];exact aaV
 have c:List.foldl (λj i=>j++i) #[] (List.replicate (if b.toArray.isEmpty=true then 0 else k.toNat) b.toArray)=(List.replicate k.toNat b).flatten.toArray:=by
  have J:∀m:Nat,List.foldl (λj i=>j++i) #[] (List.replicate m b.toArray)=(List.replicate m b).flatten.toArray:=λm=>by
   have:=foldl_rep b m [];rw[List.nil_append] at this;exact this
  rw[J];cases b with
  | nil=>simp
  | cons a N=>rw[ac9 (by simp)]
 refine wpAny_binaryOp_repeat_ref (T:= "list") (U:= "int") (by decide) ⟨_,e,Z⟩ (λw=>typeIs_int w k t) noFill_list_mul F.fills_int_mul F.slot_int_rmul repeat_list F.slot_int_index.lookup
  (call_meets F.slot_int_rmul (typeIs_int s k t) F.entry_int_rmul (F.args_int_rmul_2 _ _) (int___rmul___int_list k t l b.toArray n)
    ⟨e,Z,⟨_,e,Z⟩,call_meets F.slot_list_mul ⟨_,e,Z⟩ F.entry_list_mul (F.args_list_mul_2 _ _) (AutoListH.list___mul___list_int_3 l b.toArray n k t f g K) ⟨e,?_⟩⟩)
 rw[c];exact⟨.ref _,_,I.aem (t':=s.toks) (r.rep k.toNat) (by rw[len_rep,Nat.mul_comm];exact p),Z,q _ I.fresh⟩
section
variable{prog:Program}
end
section
variable{κ:Type}[DecidableEq κ]
def gw(a:List (κ×V))(k:κ):Option V:=(a.find? λb=>decide (b.1=k)).map (·.2)
def putK(a:List (κ×V))(k:κ)(v:V):List (κ×V):=
 if (a.any λb=>decide (b.1=k))=true then a.map (λb=>if b.1=k then (b.1,v) else b) else a++[(k,v)]
theorem gK{p:κ×V}{r:List (κ×V)}{k:κ}(e:p.1=k):gw (p::r) k=some p.2:=by simp[gw,List.find?_cons,e]
theorem gM{p:κ×V}{r:List (κ×V)}{k:κ}(e:¬p.1=k):gw (p::r) k=gw r k:=by simp[gw,List.find?_cons,e]
theorem uK(k:κ):∀kvs:List (κ×V),(kvs.any λa=>decide (a.1=k))=(gw kvs k).isSome
 | []=>rfl
 | p::r=>by
   rw[List.any_cons]
   by_cases e:p.1=k
   .simp only[gK e,aaO e,Bool.true_or,Option.isSome_some]
   .rw[gM e,aaQ e,Bool.false_or];exact uK k r
theorem Ih(k j:κ)(y:V):∀kvs:List (κ×V),gw (kvs.map λa=>if a.1=k then (a.1,y) else a) j=(gw kvs j).map λx=>if j=k then y else x
 | []=>rfl
 | p::r=>by
   have b:=Ih k j y r;rw[List.map_cons]
   by_cases h:p.1=k
   .rw[ac_ h]
    by_cases e:p.1=j
    .rw[gK (p:=(p.1,y)) e,gK e,Option.map_some,ac_ (e.symm.trans h)]
    .rw[gM (p:=(p.1,y)) e,gM e,b]
   .rw[ac9 h]
    by_cases e:p.1=j
    .rw[gK (p:=p) e,gK e,Option.map_some,ac9 (λz=>h (e.trans z))]
    .rw[gM (p:=p) e,gM e,b]
theorem Du(k j:κ)(y:V):∀kvs:List (κ×V),gw kvs k=none->gw (kvs++[(k,y)]) j=if j=k then some y else gw kvs j
 | [],_=>by
   by_cases e:k=j
   .rw[ac_ e.symm];exact gK (p:=(k,y)) e
   .rw[ac9 (λz=>e z.symm)];exact gM (p:=(k,y)) e
 | p::r,a=>by
   rw[List.cons_append];have b:¬p.1=k:=λz=>by rw[gK z] at a;cases a
   rw[gM b] at a;have c:=Du k j y r a
   by_cases e:p.1=j
   .rw[gK e,gK e,ac9 (λz=>b (e.trans z))]
   .rw[gM e,gM e,c]
theorem zZ(b:List (κ×V))(k j:κ)(y:V):gw (putK b k y) j=if j=k then some y else gw b j:=by
 unfold putK
 by_cases a:(b.any λc=>decide (c.1=k))=true
 .rw[ac_ a,Ih]
  rw[uK] at a
  by_cases e:j=k
  .obtain⟨x,d⟩:=Option.isSome_iff_exists.mp a
   rw[ac_ e,e,d,Option.map_some,ac_ rfl]
  .rw[ac9 e]
   cases gw b j with
   | none=>rfl
   | some x=>rw[Option.map_some,ac9 e]
 .rw[ac9 a]
  refine Du k j y b ?_;rw[uK] at a;cases q:gw b k with
  | none=>rfl
  | some x=>rw[q] at a;exact(a rfl).elim
theorem yw(a:List (κ×V))(k:κ)(v:V):(putK a k v).length<=a.length+1:=by
 unfold putK;split
 .rw[aae];lia
 .rw[abf,ac1,List.length_nil];lia
theorem nP.QX{o:Option V}{u:Option Value}(r:nP o u):o.isSome=u.isSome:=by
 cases o with
 | none=>cases u with
   | none=>rfl
   | some _=>exact(show False from r).elim
 | some _=>cases u with
   | none=>exact(show False from r).elim
   | some _=>rfl
theorem nP.getD{o:Option V}{u:Option Value}{d:V}{d':Value}(r:nP o u)(a:RelV d d'):RelV (o.getD d) (u.getD d'):=by
 cases o with
 | none=>cases u with
   | none=>exact a
   | some _=>exact(show False from r).elim
 | some _=>cases u with
   | none=>exact(show False from r).elim
   | some _=>exact r
theorem KV.val{a:List (κ×V)}{vs:List (κ×Value)}(r:KV a vs)(k:κ):nP (gw a k) (valueAt vs k):=by
 unfold KV at r
 induction r with
 | nil=>exact True.intro
 | @cons p q j c h t g=>
   obtain⟨f,i⟩:=h
   by_cases e:p.1=k
   .have d:q.1=k:=f.symm.trans e
    have b:valueAt (q::c) k=some q.2:=by simp[valueAt,List.find?_cons,d]
    rw[gK e,b];exact i
   .have d:¬q.1=k:=λz=>e (f.trans z)
    have b:valueAt (q::c) k=valueAt c k:=by simp[valueAt,List.find?_cons,d]
    rw[gM e,b];exact g
end
theorem aaq{k:Key}(r:RelV (kV k) u):(fW P w).is k u=true:=by
 cases k with
 | inl i=>obtain⟨t,e⟩:=(show ∃t,u=Value.int i t from r);subst e;exact Jl P w i t
 | inr x=>obtain⟨t,e⟩:=(show ∃t,u=Value.str x t from r);subst e;exact Jk P w x t
theorem Ec{P:Program}{w:World}:∀{ks:List Key}{us:zzt},Vals (ks.map kV) us->ItemsAre (fW P w) ks us
 | [],_,r=>by rw[List.map_nil] at r;cases r;exact .nil
 | k::ks,_,r=>by
   rw[List.map_cons] at r;cases r with
   | cons h t=>exact .cons (aaq h) (Ec t)
abbrev KT(H:Hp):List (List Key×V)->List (List Key×Addr×Value)->Prop:=Paired λp q=>p.1=q.1/\H q.2.1=some (.tup (p.1.map kV))/\RelV p.2 q.2.2
theorem KT.val{xs:List (List Key×Addr×Value)}(r:KT H kvs xs)(k:List Key):nP (gw kvs k) ((atKey xs k).map (·.2)):=by
 induction r with
 | nil=>exact True.intro
 | @cons p q i a h t f=>
   obtain⟨d,_,g⟩:=h
   by_cases e:p.1=k
   .have c:q.1=k:=d.symm.trans e
    have b:atKey (q::a) k=some q.2:=by simp[atKey,List.find?_cons,c]
    rw[gK e,b];exact g
   .have c:¬q.1=k:=λz=>e (d.trans z)
    have b:atKey (q::a) k=atKey a k:=by simp[atKey,List.find?_cons,c]
    rw[gM e,b];exact f
theorem KT.repl{xs:List (List Key×Addr×Value)}(r:KT H kvs xs)(k:List Key)(d:RelV y u):
 KT H (kvs.map λb=>if b.1=k then (b.1,y) else b) (xs.map (putAt k u)):=by
 induction r with
 | nil=>exact .nil
 | @cons p q j i h t f=>
   rw[List.map_cons,List.map_cons];refine .cons ?_ f;obtain⟨a,c,g⟩:=h;unfold putAt
   by_cases e:p.1=k
   .rw[ac_ e,ac_ (a.symm.trans e)];exact⟨a,c,d⟩
   .rw[ac9 e,ac9 (λz=>e (a.trans z))];exact⟨a,c,g⟩
theorem KT.put{xs:List (List Key×Addr×Value)}(r:KT H kvs xs)(k:List Key)(d:H b=some (.tup (k.map kV)))(a:RelV y u):
 KT H (putK kvs k y) (storedH xs k b u):=by
 have e:(kvs.any λc=>decide (c.1=k))=(atKey xs k).isSome:=by
  rw[uK,(r.val k).QX,Option.isSome_map]
 unfold putK storedH;rw[e]
 by_cases q:(atKey xs k).isSome=true
 .rw[ac_ q,ac_ q];exact r.repl k a
 .rw[ac9 q,ac9 q];exact Paired.snoc r ⟨Z,d,a⟩
theorem KT.keeps{xs:List (List Key×Addr×Value)}(r:KT H kvs xs)(a:∀b ys,H b=some (.tup ys)->H' b=some (.tup ys)):KT H' kvs xs:=
 Paired.ael r λ_ _ z=>⟨z.1,a _ _ z.2.1,z.2.2⟩
section
variable{h:Heap}
theorem aad{u:HO}(ok:sX P w H h)(e:Rd H a u):dM P w H h a u:=e.ok ok
theorem aaz{b:List (Key×V)}(ok:sX P w H h)(e:Rd H a (.dK b)):b.length<=sizeLine/\(a==sysModules)=false /\ ∃vs,KV b vs/\h.DictOf (fW P w) a vs:=
 show dM P w H h a (.dK b) from aad ok e
theorem Lp(ok:sX P w H h)(e:H a=some (.tup (ks.map kV))):(tupleKind (fW P w)).is h ks a:=by
 obtain⟨_,b,r,o,f,d,n,c⟩:=(show dM P w H h a (.tup (ks.map kV)) from ok a _ e);exact⟨o,b.toArray,n,f,d,c,by simpa using Ec r⟩
theorem Wh(ok:sX P w H h)(e:Rd H a (.dT kvs)):kvs.length<=sizeLine/\(a==sysModules)=false /\
 ∃xs,KT H kvs xs/\h.DictOfH (tupleKind (fW P w)) a xs:=by
 obtain⟨z,y,xs,r,o,n,s,k,j,i,g,f⟩:=(show dM P w H h a (.dT kvs) from aad ok e);refine⟨z,y,xs,r,o,n,s,k,j,i,g,λx b=>?_,f⟩
 have all:∀{l:List (List Key×V)}{m:List (List Key×Addr×Value)},KT H l m -> ∀x∈m,(tupleKind (fW P w)).is h x.1 x.2.1:=by
  intro l m q
  induction q with
  | nil=>intro x b;exact nomatch b
  | @cons p q v u c t d=>
    intro x b;rcases List.mem_cons.mp b with e|b
    .subst e
     exact Lp ok (by rw[←c.1];exact c.2.1)
    .exact d x b
 exact all r x b
theorem aeY(ok:sX P w H h)(e:H a=some (.dT kvs)):kvs.length<=sizeLine/\(a==sysModules)=false /\
 ∃xs,KT H kvs xs/\h.DictOfH (tupleKind (fW P w)) a xs:=Wh ok (.inl e)
end
def W4(H:Hp)(a:Addr)(y:V)(r:Option V):Prop:=
 (∃kvs k,Rd H a (.dK kvs)/\y=kV k/\r=gw kvs k) \/ ∃kvs k b,Rd H a (.dT kvs)/\y=.ref b/\H b=some (.tup (k.map kV))/\r=gw kvs k
theorem W4.t{k:List Key}(e:H a=some (.dT kvs))(c:H b=some (.tup (k.map kV))):W4 H a (.ref b) (gw kvs k):= .inr ⟨kvs,k,b,.inl e,Z,c,Z⟩
section
variable{r:Value}{o:Option V}
theorem Inv.big(I:Inv X pins σ H s):sysModules<s.heap.objs.size:=by
 have h:mainGlobals<s.heap.objs.size:=(I.mod.glob.keeps I.bk).lt;exact Nat.lt_trans (by decide) h
theorem Zz{ob:HO}(I:Inv X pins σ H s)(c:Mut (H a))(hs:Heap.SameBut a s.heap h')(he:∃q,h'.get? a=some q)(new:dM X.prog X.w (upd H a ob) h' a ob):
 Inv X pins σ (upd H a ob) {s with heap:=h',toks:=t'}:=
 I.write (x:=a) (e:=a) c (.inl rfl) (λb q d z=>(hs.2 b d).trans z) he new
end
section
variable{kvs:List (Key×V)}{k:Key}
end
section
variable{o i:Expr}{td ty:TE}
end
theorem Wi(h:Heap)(a:sysModules<h.objs.size):dM P w H (h.push {cls:= .type "dict",data:= .dict #[]}) h.objs.size (.dT []):=
 ⟨Nat.zero_le _,beq_eq_false_iff_ne.mpr (Ne.symm (abX a)),[],.nil,_, #[],0,aao _ rfl,⟨Z,Z,Z⟩,Z,Z,List.nodup_nil⟩
def aa3:TE:=λ_ H Q=>∀p,H p=none->Q (.ref p) (upd H p (.dT []))
theorem Uy:PE X (.Dict [] [] pos) aa3:=λb s c H Q I h=>
 wpAny_Dict_empty ⟨.ref s.heap.objs.size,_,I.laid (a:=s.heap.objs.size) (o:= .dT []) (t':=s.toks) (λ_ _ q=>aan _ q) (aaw _) (Wi s.heap I.big),Z,h _ (I.hok.fresh (aaw _))⟩
structure M1(X:Cx)(o:Expr)(m:Str)(apos:Pos)(e:Expr)(cpos:Pos):Prop where
 base:attributeBase o m X.env (eval o X.env)=eval o X.env
 few:((backTo cpos (starEach [e] X.env)).all (λx=> !x.1)&&(backToKw cpos (keywordEach [] X.env)).all (λx=>x.1.isSome)
  && decide (([e]:List Expr).length+([]:List Keyword).length+(if ([]:List Keyword).isEmpty then 0 else 1)<30))=true
 line:(apos.endLine==cpos.line)=true
 trees:backTo cpos (starEach [e] X.env)=[(false,eval e X.env)]
structure M2(X:Cx)(o:Expr)(m:Str)(apos:Pos)(e f:Expr)(cpos:Pos):Prop where
 base:attributeBase o m X.env (eval o X.env)=eval o X.env
 few:((backTo cpos (starEach [e,f] X.env)).all (λx=> !x.1)&&(backToKw cpos (keywordEach [] X.env)).all (λx=>x.1.isSome)
  && decide (([e,f]:List Expr).length+([]:List Keyword).length+(if ([]:List Keyword).isEmpty then 0 else 1)<30))=true
 line:(apos.endLine==cpos.line)=true
 trees:backTo cpos (starEach [e,f] X.env)=[(false,eval e X.env),(false,eval f X.env)]
def IsD(H:Hp)(a:Addr):Prop:=(∃kvs,Rd H a (.dK kvs)) \/ ∃kvs,Rd H a (.dT kvs)
theorem VG(I:Inv X pins σ H s)(d:IsD H a):
 s.TypeIs (.ref a) "dict" /\ (∀b,Value.ref a=.ref b -> ∃ob,s.heap.get? b=some ob/\ob.dict=none)/\(a==sysModules)=false:=by
 rcases d with ⟨f,e⟩|⟨f,e⟩
 .obtain⟨_,g,k,_,c⟩:=aaz I.hok e
  refine⟨c.typeIs,λb q=>?_,g⟩;cases q;obtain⟨ob,_,_,i,h,_⟩:=c;exact⟨ob,i,h.2.1⟩
 .obtain⟨_,g,j,_,c⟩:=Wh I.hok e
  refine⟨c.typeIs,λb q=>?_,g⟩;cases q;obtain⟨ob,_,_,i,h,_⟩:=c;exact⟨ob,i,h.2.1⟩
section
variable{d:V}{r:Value}{o:Option V}
theorem acu(t:A.units+1<cLine)(I:Inv X pins σ H s)(g:W4 H a y o)(n:RelV y u)(p:RelV d r)(h:∀m s',Inv X pins σ H s'->RelV (o.getD d) m->Q m s'):
 wpAny (model X.prog X.w) A (call (.builtin "dict.get") [.ref a,u,r]) Q E s:=by
 rcases g with ⟨f,k,e,j,l⟩|⟨f,k,b,e,j,v,l⟩
 .subst j
  obtain⟨z,i,w,rel,c⟩:=aaz I.hok e;refine call_meetsIn F.slot_dict_get c.typeIs F.entry_dict_get (F.args_dict_get_3 _ _ _) (meets_dict_get_default (fW X.prog X.w) a (aaq n) i r) ⟨_,c.mapOf,h _ _ (I.tok _) ?_⟩;rw[l];exact(rel.val k).getD p
 .subst j
  cases (show u=Value.ref b from n);obtain⟨z,i,q,rel,c⟩:=Wh I.hok e;refine call_meetsIn F.slot_dict_get c.typeIs F.entry_dict_get (F.args_dict_get_3 _ _ _) (meetsH_dict_get_default (tupleKind (fW X.prog X.w)) a b i r) ⟨tupleKind_room_in1 t,k,q,Lp I.hok v,c,h _ _ (I.tok _) ?_⟩;rw[l];exact(rel.val k).getD p
end
def aa4(d ty c:TE):TE:=λσ H Q=>d σ H λx H1=>∃a,x=.ref a/\IsD H1 a/\ty σ H1 λy H2=>c σ H2 λz b=>∃o,W4 b a y o/\Q (o.getD z) b
section
variable{o f:Expr}{td ty tx:TE}
theorem Uz(t:X.A.units+1<cLine)(v:PE X o td)(he:PE X e ty)(w:PE X f tx)(m:M2 X o "get" apos e f cpos):PE X (.Call (.Attribute o "get" apos) [e,f] [] cpos) (aa4 td ty tx):=by
 intro b s c H Q I h;refine wpAny_Call_method m.base m.few m.line F.plainAttrs_dict F.slot_dict_get F.type_dict_get (dG (v b s c H _ I h) λu n A=>?_);obtain⟨x,H1,j,r,a,ex,d,q1⟩:=A;subst ex;obtain rfl:u=Value.ref a:=r;obtain⟨t1,k,_⟩:=VG j d;refine⟨t1,k,?_⟩;rw[m.trees]
 refine Calls.callWith_builtin rfl (Calls.evalArgs_plain (Calls.spliced_cons (dG (he b n c H1 _ j q1) λM l ⟨y,H2,D,q,q2⟩=>
  Calls.spliced_cons (dG (w b l c H2 _ D q2) λN K ⟨z,E,C,p,L,g,q3⟩=>Calls.spliced_nil ?_))))
 exact acu t C g q p λG J B i=>⟨_,E,B,i,q3⟩
end
section
variable{kvs:List (Key×V)}
end
end L2
namespace Att
open PySem PySem.W PySem.Calls PyProof.Rows
theorem yQ{P:Params}{h:Heap}:∀(ns:List Int)(vs:zzt),WellAll P h vs (ns.map WData.int)->IntsAre vs ns:=by
 intro ns
 induction ns with
 | nil=>
   intro vs w;rw[List.map_nil] at w;cases w;exact .nil
 | cons n ns c=>
   intro vs w;rw[List.map_cons] at w;cases w with
   | cons a b=>
     cases a;exact .cons _ _ (c _ b)
theorem Qm{l:OpenLaw}(t:l.most=some n){P:Params}{h:Heap}{args:List WData}{vals:zzt}(b:l.row.toRowW.claim.pre args=true)(i:WellAll P h vals args):
 ∃a vs ns,vals=[Value.ref a]/\args=[WData.list (ns.map WData.int)]/\h.get? a=some {cls:= .type "list",data:= .seq vs.toArray}/\IntsAre vs ns/\ns.length<=n:=by
 have j:WShape.hasAll [] args [.list .int]=true:=(pre_splitW b).1;have k:l.pre.holds [] {args:=args}=true:=(pre_splitW b).2;obtain⟨d,r,rfl,w,v⟩:=hasAllW_cons j;obtain rfl:=hasAllW_nil v;obtain⟨x,rfl,u⟩:=hasW_list w;obtain⟨ns,rfl⟩:=items_int u
 have c:ns.length<=n:=by
  unfold OpenLaw.pre at k
  have g:(WTm.not (.lt (.lit (.int (n:Int))) (.len (.arg 0)))).holds [] {args:=[.list (ns.map .int)]}=true:=by
   have g:=(holds_andW k).1;rw[t] at g;exact g
  have f:=condW_of g (w_not (w_lt w_lit (w_len_list (w_arg rfl))));rw[aae] at f;refine Nat.le_of_not_lt λq=>?_;have p:(n:Int)<((ns.length:Nat):Int):=by lia
  first
   | (rw[aaO p] at f;exact ac' f (by decide))
   | (simp at f;lia)
 cases i with
 | cons o m=>
   cases m;cases o with
   | list s e=>exact⟨_,_,ns,Z,Z,s,yQ ns _ e,c⟩
theorem Qs(l:OpenLaw)(args:List WData):l.row.toRowW.claim.post args (.bool true) args=true:=
 postW_of (r:=l.row.toRowW) (X:=(true==true))
  (show WShape.has [] (.bool true) .bool=true by first |rfl|decide|simp[WShape.has,WShape.arms,WShape.armsAll])
  (show (WTm.eq .res (.lit (.bool true))).value [] {args:=args,res:=some (.bool true),after:=args}=some (.bool (true==true)) from w_eq_bool (w_res rfl) w_lit) rfl
theorem Ka{l:OpenLaw}{d:DefRec}(v:l.most=some n)(j:d.params.defaults=[])(call:∀(w:World)(s₀ b:Shared)(mg h:zzv)(fa:Addr)(o:Obj)(pm cd doc:Value)(a:Addr)(vs:zzt)(ns:List Int),
   Ground q loose [] XP w s₀ mg h b.heap->YP w b.heap ->
   b.heap.get? fa=some o->o.data=.func (docDef d.name d.params d.body d.scope pm cd doc)->b.heap.CodeRec cd d.name->mg d.name=some (.ref fa) ->
   b.heap.get? a=some {cls:= .type "list",data:= .seq vs.toArray}->IntsAre vs ns->ns.length<=n->b.gens = #[] ->
   codeAny (model l.prog w) callerA (.call (.ref fa) ⟨[.ref a],[]⟩) (λr s'=>r=.ok (.ret (.bool true))/\OldK b.heap s'.heap/\s'.os=b.os/\AllBare s'.gens) b):
 WalkO q loose XP YP l.row.toRowW d [] (λf vs=>PySem.call f vs):=by
 intro w s₀ b mg h G Y fa o pm cd doc E kV u A k p hmg z args vals as c m s i y;obtain rfl:E=.none:=Dflts.none p j;obtain rfl:kV=.none:=Dflts.noKw p;obtain⟨a,vs,ns,rfl,rfl,e,hints,g⟩:=Qm v c i;refine enter_call (codeAny_mono (call w s₀ b mg h fa o pm cd doc a vs ns G Y u (fd_plain A) k hmg e hints g z) λr s' t=>?_);obtain⟨rfl,D,C,B⟩:=t;exact⟨.inl ⟨.bool true,.bool true,[],Z,λ_=>rfl,.bool true,Qs l _,λ_=>⟨List.Pairwise.nil,λ_ x=>(nomatch x)⟩⟩,D,C,B⟩
section
variable{prog:Program}{K:Frag}
def ledger(h:Heap)(L d:Addr):List (Addr×Obj):=(List.range h.objs.size).filterMap λa=>if a=L\/a=d then none else (h.get? a).map λo=>(a,o)
end
end Att
namespace L2
open PySem PySem.Spec PyProof.Rows
theorem P_{vs:zzt}(h:IntsAre vs ns):Vals (ns.map V.int) vs:=by
 induction h with
 | nil=>exact .nil
 | cons n t h a=>exact .cons ⟨t,Z⟩ a
def Only(H:Hp):Prop:=∀b,H b=none \/ ∃o xs,H b=some (.JD o (.lst xs))
theorem Vx{mg I:zzv}{fa:Addr}{c:Shared}{vs:zzt}(KX:K.In c.heap)(y:c.heap.Ns mainGlobals mg)(f:c.heap.Ns builtinsNs I)(L:∀x:Str,x ≠ "__name__" -> I x=bootBuiltins x)(A:c.heap.NoLimit)(hg:c.gens = #[])(E:c.heap.get? a=some {cls:= .type "list",data:= .seq vs.toArray})(hi:IntsAre vs ns)(Q:ns.length<=sizeLine)(hr:fJ k callerA)(F:∀base:Heap,K.In base->base.Ns mainGlobals mg->bR P w K mg base CX k fa fd [x] sp)(i:∀(s:Shared)(u:Value),BindsTo s fd ⟨[u],[]⟩ [(x,u)])(J:∀H:Hp,Only H->bG K H a (ns.map V.int)->sp [.ref a] H (λv _=>v=.bl true) λ_ _ _=>False)(M:∀H e s',CX [] H c (λ_ _ _=>False) e s'->False):
 codeAny (model P w) callerA (.call (.ref fa) ⟨[.ref a],[]⟩) (λr s'=>r=.ok (.ret (.bool true))/\OldK c.heap s'.heap/\s'.os=c.os/\AllBare s'.gens) c:=by
 have O:=P_ hi;have l:=hi.length
 have core:∀H:Hp,Only H->bG K H a (ns.map V.int)->sX P w H c.heap->(∀b,H b≠none->b=a)->(H a≠none->K.lookup a=none) ->
  codeAny (model P w) callerA (.call (.ref fa) ⟨[.ref a],[]⟩) (λr s'=>r=.ok (.ret (.bool true))/\OldK c.heap s'.heap/\s'.os=c.os/\AllBare s'.gens) c:=by
  intro H R hS t S hK;have U:∀{b:Addr}{o:Obj},c.heap.get? b=some o->H b=none->(GP c.heap H).get? b=some o:=λe n=>VP e n
  have G:∀{b:Addr}{o:Obj}{C:Array DictEntry}{D:Nat},c.heap.get? b=some o->o.data=.dict C D->H b=none:=fun {b o C D} e d=>by
   cases q:H b with
   | none=>rfl
   | some u=>
     have N:b=a:=S b (by rw[q];simp);subst N;rw[E] at e;cases e;have d':Data.seq vs.toArray _=Data.dict C D:=d;cases d'
  have g:∀{b:Addr}{m:zzv},c.heap.Ns b m->(GP c.heap H).Ns b m:=fun {b m} ⟨o,C,D,e,d,r⟩=>⟨o,C,D,U e (G e d),d,r⟩
  have B:K.In (GP c.heap H):=λb o e=>U (KX b o e) (by
   cases q:H b with
   | none=>rfl
   | some u=>
     have N:b=a:=S b (by rw[q];simp);subst N;rw[hK (by rw[q];simp)] at e;cases e)
  have hM:Mod K mg (GP c.heap H):=⟨B,g y,⟨I,g f,L⟩,let ⟨mc,h1,h2⟩:=A;⟨mc,g h1,h2⟩⟩;have e0:Dp P w K mg (GP c.heap H) callerA [] c H:=⟨Z,hM,λb o e=>YQ e,Nat.le_of_eq (Q5 _ _),trivial,λb f=>ac' (show b∈([]:List Addr) from f) (by simp),t,.of_eq hg⟩;refine codeAny_mono ((F _ B (g y)).run callerA [] c H ⟨[.ref a],[]⟩ [.ref a] [.ref a] _ _ hr e0 (i c (.ref a)) (.cons rfl .nil) (J H R hS)) λr s' h=>?_;cases r with
  | error e=>exact(M H e s' h).elim
  | ok fl=>
    cases fl with
    | next=>exact False.elim h
    | brk=>exact False.elim h
    | cont=>exact False.elim h
    | ret u=>
      obtain⟨v,H',os,bare,un,p,X,q⟩:=h;have Y:v=.bl true:=q;subst Y;obtain rfl:u=Value.bool true:=X;refine⟨Z,OldK.of_keep λb o e=>?_,os,bare⟩;cases q:H b with
      | none=>exact un.keep b o e q (by intro z;exact ac' (show b∈([]:List Addr) from z) (by simp)) (by simp)
      | some u=>
        rcases R b with z|⟨ob,xs,z⟩
        .rw[q] at z;cases z
        .have W:=un.vN b ob _ z
         obtain⟨T,_⟩:=t b _ z;obtain⟨e2,_⟩:=p b _ W;rw[e] at T;cases T;exact e2
 cases hk:K.lookup a with
 | some o=>
   have e:=KX a o hk;rw[E] at e;cases e;refine core (λ_=>none) (λ_=> .inl rfl) (.inr ⟨_,vs.toArray,_,hk,Z,Z,Z,by rw[aa8,l];exact Q,by simpa using O⟩) (λb u z=>by have j:(none:Option HO)=some u:=z;cases j) (λb z=>ac' rfl z) λz=>ac' rfl z
 | none=>
   refine core (λb=>if b=a then some (.JD {cls:= .type "list",data:= .seq vs.toArray} (.lst (ns.map V.int))) else none) (λb=>?_) (.inl (.inr ⟨{cls:= .type "list",data:= .seq vs.toArray},ac_ rfl⟩)) (λb u z=>?_) (λb z=>?_) λ_=>hk
   .by_cases f:b=a
    .exact .inr ⟨_,_,ac_ f⟩
    .exact .inl (ac9 f)
   .by_cases f:b=a
    .have j:=(ac_ f).symm.trans z
     cases j;subst f;exact⟨E,by rw[aae];exact Q,vs,_,O,E⟩
    .have j:=(ac9 f).symm.trans z
     cases j
   .by_cases f:b=a
    .exact f
    .exact ac' (ac9 f) z
abbrev KOf{h:Heap}(_:K.In h):zzy:=K
theorem Xl{l:W.OpenLaw}{d:DefRec}{K:Params->zzy}{CX:World->RQ}{sp:World->Sp}(y:l.most=some n)(j:n<=sizeLine)(m:d.params.defaults=[])(t:fJ k callerA)(C:∀(w:World)(h:Heap),YP w h->(K w.params).In h)(F:∀(w:World)(mg:zzv)(fa:Addr)(h:Heap),(K w.params).In h->h.Ns mainGlobals mg->mg d.name=some (.ref fa) ->
   ∃fd:zzs,(∀(s:Shared)(u:Value),BindsTo s fd ⟨[u],[]⟩ [(x,u)]) /\
    ∀base:Heap,(K w.params).In base->base.Ns mainGlobals mg->bR l.prog w (K w.params) mg base (CX w) k fa fd [x] (sp w))(i:∀(w:World)(H:Hp)(a:Addr)(ns:List Int),ns.length<=n->Only H->bG (K w.params) H a (ns.map V.int)->sp w [.ref a] H (λv _=>v=.bl true) λ_ _ _=>False)(p:∀(w:World)(H:Hp)(s:Shared)(e:Value)(s':Shared),CX w [] H s (λ_ _ _=>False) e s'->False):
 W.WalkO q loose XP YP l.row.toRowW d [] (λf vs=>PySem.call f vs):=by
 refine Att.Ka y m λw r c mg I fa o pm cd doc a vs ns G Y J L A hmg g hints b z=>?_;have KX:=C w _ Y;obtain⟨fd,B,hF⟩:=F w mg fa _ KX G.T.g hmg;exact Vx KX G.T.g G.T.b G.T.builtins G.T.nolimit z g hints (ac5 b j) t hF B (λH E D=>i w H a ns b E D) λH e s'=>p w H c e s'
def inClass(s:Stmt)(j:Nat):Stmt:=match s with
 | .ClassDef _ _ _ body _ _ _ _ _ _ _=>body.getD j (.Pass ⟨0,0,0,0⟩)
 | _=> .Pass ⟨0,0,0,0⟩
def d9(s:Stmt):Arguments:=match s with
 | .FunctionDef _ a _ _ _ _ _ _ _ _=>a
 | _=>{posonlyargs:=[],args:=[],vararg:=none,kwonlyargs:=[],kw_defaults:=[],kwarg:=none,defaults:=[]}
def gH(s:Stmt):List Stmt:=match s with
 | .FunctionDef _ _ b _ _ _ _ _ _ _=>b
 | _=>[]
def aP(s:Stmt):Scope:=match s with
 | .FunctionDef _ _ _ _ _ _ a _ _ _=>a
 | _=>{kind:= .function,names:=[],isGenerator:=false,isCoroutine:=false}
abbrev iB:RQ:=λ_ _ _ _ _ _=>False
abbrev E0:XK:=λ_ _ _=>False
theorem Jc:Passes iB X E0:=λ_ _ _ _ _ _ _ h=>h.elim
structure fZ(K:zzy)(x qual:Str)(st:Stmt)(f:Addr)(fd:zzs):Prop where
 ex:∃(oc:Value) (od:Option Addr) (kV doc pm:Value) (an:Option Addr) (cdv ct:Value) (osl:Array (Option Value)),
  fd=W.fnOf x qual (d9 st) (gH st) (aP st) .none kV doc pm an cdv ct/\K.lookup f=some ⟨oc,od,.func fd,osl⟩/\W.codeIn K cdv qual=true
 kp:W.keepIn K (.ref f)=true
section
variable{mg:zzv}
theorem fZ.ok(F:fZ K x qual st f fd)(S:aY N ps (aP st))(len:∀vs H Q E,sp vs H Q E->vs.length=ps.length)(a:∀(cdv:Value)(A:Around)(outer:List Env)(s:Shared)(H:Hp)(vs:List V)(Q:VK)(E:XK),fJ k (A.deeper (envOfC qual (aP st) s.heap.objs.size f cdv))->sp vs H Q E ->
   ∃t,Kf (pX iB P w K mg base N qual (aP st) f cdv A outer s H E).nox (gH st) t/\t {nx:=λ_ H'=>Q .non H',rt:=Q} (start N vs) H):bR P w K mg base iB (k+1) f fd ps sp:=by
 obtain⟨j,i,kV,doc,pm,an,cdv,l,d,rfl,e,c⟩:=F.ex;refine V8 e c S len λA outer s H vs Q E g b=>?_;obtain⟨t,h,q⟩:=a cdv A outer s H vs Q E g b;exact⟨t,h.nox,q⟩
theorem fZ.binds(F:fZ K x qual st f fd)(h:∀(kV doc pm:Value)(an:Option Addr)(cdv ct:Value)(us:zzt),us.length=ps.length->bindArgs (W.fnOf x qual (d9 st) (gH st) (aP st) .none kV doc pm an cdv ct) ⟨us,[]⟩=pure (ps.zip us)):Binds K fd ps []:=by
 obtain⟨d,c,kV,doc,pm,an,cdv,ct,a,rfl,e,b⟩:=F.ex;exact .all (h kV doc pm an cdv ct)
theorem V6{kV:Value}(l:K.lookup f=some ⟨oc,od,.func (W.fnOf x qual (d9 st) (gH st) (aP st) .none kV doc pm an cdv ct),osl⟩)(c:W.codeIn K cdv qual=true)(k:W.keepIn K (.ref f)=true):fZ K x qual st f (W.fnOf x qual (d9 st) (gH st) (aP st) .none kV doc pm an cdv ct):=⟨⟨oc,od,kV,doc,pm,an,cdv,ct,osl,Z,l,c⟩,k⟩
end
theorem aat(a:fJ k A):A.units+1<cLine:=Nat.lt_of_le_of_lt (Nat.add_le_add_left (by decide:1<=64) _) a.units
theorem pv(i:Nat)(d:X.N[i]?=some x:=by rfl)(b:Vis X.env.scope x:=by first |exact Or.inl rfl|exact Or.inr (Or.inl rfl)|exact Or.inr (Or.inr rfl))(c:(x==("__debug__" :Str))=false:=by decide)(a:(x==("__classdict__" :Str))=false:=by decide):PE X (.Name x pos) (eG i):=abt d b c a
theorem cX{A:Prop}(h:B):if false=true then A else B:=by
 rw[ac9 aaV];exact h
theorem fH{A:Prop}(h:A):if true=true then A else B:=by
 rw[ac_ rfl];exact h
theorem cO{c A:Prop}[Decidable c](b:c->A)(a:¬c->B):if c then A else B:=by
 by_cases h:c
 .rw[ac_ h]
  exact b h
 .rw[ac9 h]
  exact a h
theorem vK{c A:Prop}[Decidable c](a:c)(h:B):if (!decide c)=true then A else B:=by
 rw[aaO a];exact cX h
def Same(H H':Hp):Prop:=∀b o,H b=some o->H' b=some o
theorem Same.refl(H:Hp):Same H H:=λ_ _ h=>h
theorem Same.trans{H1 H2:Hp}(a:Same H H1)(b:Same H1 H2):Same H H2:=λc o h=>b c o (a c o h)
theorem Same.free(e:Same H H'){l:Addr}(h:H' l=Option.none):H l=Option.none:=by
 cases q:H l with
 | none=>rfl
 | some o=>
   rw[e l o q] at h;cases h
theorem Same.seq(e:Same H H')(h:bG K H a xs):bG K H' a xs:=by
 rcases h with (h|⟨o,h⟩)|h
 .exact .inl (.inl (e _ _ h))
 .exact .inl (.inr ⟨o,e _ _ h⟩)
 .exact .inr h
section
variable{κ:Type}[DecidableEq κ]
end
end L2
set_option maxHeartbeats 4000000
namespace L2
open PySem PySem.Spec PyProof.Rows
theorem DX{n:Addr}(h:a<n): @LT.lt Nat _ a n:=h
def qZ(env:Env):List (Str×NameKind)->List (Str×Addr)->List (Str×Addr)
 | [],a=>a
 | (n,k)::r,a=>if k == .free then qZ env r ((n,(env.cells.lookup n).getD 0)::a) else qZ env r a
theorem L_{a:Scope}(h:∀y∈a.names,y.2=.free->(env.cells.lookup y.1).isSome=true):closureFor a env=pure (qZ env a.names []):=by
 have go:∀(d:List (Str×NameKind))(b:List (Str×Addr)),(∀y∈d,y.2=.free->(env.cells.lookup y.1).isSome=true) ->
  (forIn d b (λx o=>match x with |(name,kind)=>if (kind == .free)=true then do let c ←cellOf env name;pure (ForInStep.yield ((name,c)::o)) else pure (ForInStep.yield o)):Sem (List (Str×Addr)))=pure (qZ env d b):=by
  intro d
  induction d with
  | nil=>intro b _;rfl
  | cons y r j=>
    intro b g;obtain⟨n,k⟩:=y;rw[List.forIn_cons]
    by_cases l:k=.free
    .subst l
     have p:=g (n,.free) List.mem_cons_self rfl;obtain⟨c,f⟩:=Option.isSome_iff_exists.mp p;have e:cellOf env n=pure c:=by unfold cellOf;rw[f]
     show _=pure (qZ env r ((n,(env.cells.lookup n).getD 0)::b));rw[←j _ λy i=>g y (acq _ i)];simp only[beq_self_eq_true,if_true,e,pure_bind,f,Option.getD_some]
    .have m:(k==NameKind.free)=false:=by simpa using l
     have f:qZ env ((n,k)::r) b=qZ env r b:=by
      show (if (k==NameKind.free)=true then _ else _)=_;rw[ac9 (by rw[m];decide)]
     rw[f,←j _ λy i=>g y (acq _ i)];simp only[m,Bool.false_eq_true,if_false,pure_bind]
 have q:=go a.names [] h;unfold closureFor;show (forIn a.names [] _ >>= λr=>pure r)=_;rw[bind_pure];exact q
theorem jW{env:Env}:∀(ns:List (Str×NameKind))(a:List (Str×Addr))(x:Str),(∀y∈ns,y.2=.free->(env.cells.lookup y.1).isSome=true) ->
 (qZ env ns a).lookup x=if (x,NameKind.free)∈ns then env.cells.lookup x else a.lookup x
 | [],a,x,_=>by simp[qZ]
 | (n,k)::r,a,x,h=>by
   have g:∀y∈r,y.2=.free->(env.cells.lookup y.1).isSome=true:=λy b=>h y (acq _ b)
   by_cases f:k=.free
   .subst f
    show (qZ env r ((n,(env.cells.lookup n).getD 0)::a)).lookup x=_;rw[jW r _ x g];obtain⟨c,d⟩:=Option.isSome_iff_exists.mp (h (n,.free) List.mem_cons_self rfl);have d:env.cells.lookup n=some c:=d
    by_cases b:(x,NameKind.free)∈r
    .rw[ac_ b,ac_ (acq _ b)]
    .rw[ac9 b]
     by_cases e:x=n
     .subst e
      rw[ac_ List.mem_cons_self,List.lookup_cons,d];simp
     .rw[ac9 (λz=>(List.mem_cons.mp z).elim (λq=>e (congrArg Prod.fst q)) b),List.lookup_cons]
      have:(x==n)=false:=by simpa using e
      rw[this]
   .have i:(k==NameKind.free)=false:=by simpa using f
    have d:qZ env ((n,k)::r) a=qZ env r a:=by
     show (if (k==NameKind.free)=true then _ else _)=_;rw[ac9 (by rw[i];decide)]
    rw[d,jW r a x g]
    have:((x,NameKind.free)∈(n,k)::r)↔(x,NameKind.free)∈r:=by
     constructor
     .intro z
      rcases List.mem_cons.mp z with q|q
      .exact ac' (congrArg Prod.snd q).symm f
      .exact q
     .exact acq _
    simp only[this]
theorem lM(env:Env):∀(ns:List (Str×NameKind))(x:Str),
 (ns.map λ(n,k)=>if (k == .free&&env.scope.kind == .function&&env.kindOf n==some .cell) then (n,NameKind.cell) else (n,k)).lookup x =
   (ns.lookup x).map λk=>if (k == .free&&env.scope.kind == .function&&env.kindOf x==some .cell)=true then NameKind.cell else k
 | [],x=>rfl
 | (n,k)::r,x=>by
   show List.lookup x ((if (k==NameKind.free&&env.scope.kind == .function&&env.kindOf n==some .cell)=true then (n,NameKind.cell) else (n,k))::_)=_;cases hx:x==n with
   | true=>
     have e:x=n:=by simpa using hx
     subst e
     by_cases a:(k==NameKind.free&&env.scope.kind == .function&&env.kindOf x==some .cell)=true
     .rw[ac_ a];simp only[List.lookup_cons,hx,Option.map_some,ac_ a]
     .rw[ac9 a];simp only[List.lookup_cons,hx,Option.map_some,ac9 a]
   | false=>
     have b:=lM env r x
     by_cases a:(k==NameKind.free&&env.scope.kind == .function&&env.kindOf n==some .cell)=true
     .rw[ac_ a];simp only[List.lookup_cons,hx];exact b
     .rw[ac9 a];simp only[List.lookup_cons,hx];exact b
structure bB(N own:List Str)(caps:List Nat)(XN:List Str)(outer scope:Scope):Prop where
 kind:scope.kind=.function
 Vp:∀y∈scope.names,y.2 ≠ .cell
 names:∀y∈scope.names,y.2=.local->scope.names.lookup y.1=some .local
 free:∀y∈scope.names,y.2=.free->outer.names.lookup y.1=some .cell\/outer.names.lookup y.1=some .free
 nd:N.Nodup
 len:N.length=own.length+caps.length
 cap:∀(j:Nat),j<caps.length->N[own.length+j]?=XN[caps.getD j 0]? /\ ∃x,N[own.length+j]?=some x/\(x,NameKind.free)∈scope.names/\scope.names.lookup x=some .free
def st0(own:List Str)(caps:List Nat)(a:St):St:=own.map (λ_=>none)++caps.map (λi=>(a[i]?).join)
def gG(X:Cx)(a:Scope)(C:Addr)(N:List Str)(s:Shared)(H:Hp)(b:List Addr):Cx:=
 {X with N:=N,s₀:=s,H₀:=H,env:=compEnvC a (qZ X.env a.names []) C X.env,outer:=X.stack,ex:=b,fn:=λ_=>false,pn:=[],xe:=λ_ _=>False}
section
variable{scope:Scope}{C:Nat}
theorem bB.Wr(S:bB N own caps X.N X.env.scope scope)(ok:X.Ok):∀y∈scope.names,y.2=.free->(X.env.cells.lookup y.1).isSome=true:=λy a b=>by
 obtain⟨c,e⟩:=ok.has y.1 (S.free y a b);rw[e];rfl
theorem bB.csub(S:bB N own caps X.N X.env.scope scope)(ok:X.Ok){c:Addr}(h:(qZ X.env scope.names []).lookup x=some c):X.env.cells.lookup x=some c:=by
 rw[jW _ _ _ (S.Wr ok)] at h;split at h
 .exact h
 .simp at h
theorem bB.Vv{S:bB N own caps X.N X.env.scope scope}(h:(relabel scope X.env).names.lookup x=some .cell\/(relabel scope X.env).names.lookup x=some .free):(x,NameKind.free)∈scope.names:=by
 have e:=lM X.env scope.names x;have d:(relabel scope X.env).names.lookup x=(scope.names.lookup x).map λk=>if (k == .free&&X.env.scope.kind == .function&&X.env.kindOf x==some .cell)=true then NameKind.cell else k:=e;rw[d] at h;cases q:scope.names.lookup x with
 | none=>rw[q] at h;simp at h
 | some k=>
   have b:=PySem.mem_of_lookup q
   by_cases a:k=.free
   .subst a;exact b
   .rw[q] at h
    have c:(k==NameKind.free)=false:=by simpa using a
    simp only[Option.map_some,c,Bool.false_and,Bool.false_eq_true,if_false] at h;rcases h with h|h
    .exact ac' (abe h) (S.Vp _ b)
    .exact ac' (abe h) a
theorem Inv.comp{D:Nat}(I:Inv X pins σ H s)(S:bB N own caps X.N X.env.scope scope)(g:∀b∈fp,rJ X pins H b)(G:∀b∈fp,∃o,s.heap.get? b=some o)(hD:D=s.heap.objs.size)(hC:C=s.heap.objs.size+1)(old:∀b o,s.heap.get? b=some o->h1.get? b=some o)(B:h1.Ns C (λ_=>none))(W:h1.get? D=some {cls:= .type "list",data:= .seq #[]}){t:Nat}:
 Inv (gG X scope C N s H fp) [] (st0 own caps σ) (upd H D (.lst [])) {s with heap:=h1,toks:=t}:=by
 have d:=S.Wr I.ok;have sub:∀{x c},(qZ X.env scope.names []).lookup x=some c->X.env.cells.lookup x=some c:=λh=>S.csub I.ok h;have freshD:H D=none:=I.hok.fresh (by rw[hD];exact aaw _);have P:H C=none:=I.hok.fresh (by rw[hC];exact Nat.le_succ _)
 have O:∀x c,X.env.cells.lookup x=some c->c<s.heap.objs.size:=λx c e=>by
  obtain⟨v,z⟩:=I.cell x c e;exact z.lt
 have L:∀b∈fp,b<s.heap.objs.size:=λb i=>by
  obtain⟨o,e⟩:=G b i;exact aap e
 have DC:D≠C:=by lia
 refine⟨⟨I.ok.mod,S.kind,I.ok.glob,I.ok.blt,by show s.heap.objs.size<=C;lia,λx y c w f=>I.ok.inj x y c (sub w) (sub f),λx h=>?_,λx c h=>(by cases h),I.ok.hd,I.ok.frames,Or.inl rfl,λb i=>⟨?_,λx c e=>?_⟩,I.bs,ac5 I.ok.Mj I.sz,λb o e i=>?_,λb i z=>?_,I.stack,I.Ft⟩,
  Z,I.bare,Un.laid old (by show s.heap.objs.size<=D;lia) freshD,⟨_,B,λj x v w f e3=>?_⟩,λx c e=>?_,?_,λx c e=>?_,λp V=>?_,I.hok.laid old (by lia) ?_,?_⟩
 .have R:=bB.Vv (S:=S) (X:=X) h
  obtain⟨c,e⟩:=Option.isSome_iff_exists.mp (d _ R rfl);exact⟨c,by show (qZ X.env scope.names []).lookup x=_;rw[jW _ _ _ d,ac_ R];exact e⟩
 .exact abX (show @LT.lt Nat _ b C by have:=DX (L b i);lia)
 .exact(g b i).2.2.2.2.1 x c (sub e)
 .rcases(g b i).2.2.2.1 with z|z
  .exact I.ok.Gs b o e z
  .exact ac' (ab0 (aap e) (ac5 I.ok.Mj z)) (ac4 _)
 .rcases List.mem_cons.mp (I.Ac b z) with q|q
  .exact(g b i).2.1 q
  .exact(g b i).2.2.1 q
 .have w:N[j]?=some x:=w
  have hj:own.length<=j:=by
   by_cases q:own.length<=j
   .exact q
   .exfalso
    unfold st0 at f;rw[abU (by simp;lia),aam] at f;cases r:own[j]? with
    | none=>rw[r] at f;cases f
    | some a=>rw[r] at f;cases f
  have a0:j<N.length:=(aak.mp w).1;have F:j-own.length<caps.length:=by have:=S.len;lia
  obtain⟨U,x',K,T,c4⟩:=S.cap (j-own.length) F;rw[show own.length+(j-own.length)=j by lia] at U K;rw[w] at K;cases K
  have n:(σ[caps.getD (j-own.length) 0]?).join=some v:=by
   unfold st0 at f;rw[abj (by simp;lia),aam,aae] at f;rw[List.getD_eq_getElem?_getD];cases r:caps[j-own.length]? with
   | none=>rw[r] at f;cases f
   | some a=>rw[r] at f;exact abe f
  have M:σ[caps.getD (j-own.length) 0]?=some (some v):=by
   cases r:σ[caps.getD (j-own.length) 0]? with
   | none=>rw[r] at n;cases n
   | some a=>rw[r] at n;exact congrArg Option.some n
  have Q:X.env.kindOf x=some .cell\/X.env.kindOf x=some .free:=S.free _ T rfl;obtain⟨m,hn,E⟩:=I.loc;obtain⟨u,r,l⟩:=E _ x v (by rw[←U];exact w) M (by rcases Q with z|z;exact .inr (.inl z);exact .inr (.inr z));refine⟨u,r,.inr ⟨?_,?_⟩⟩
  .show (relabel scope X.env).names.lookup x=some .cell\/(relabel scope X.env).names.lookup x=some .free
   have e:(relabel scope X.env).names.lookup x=(scope.names.lookup x).map λk=>if (k == .free&&X.env.scope.kind == .function&&X.env.kindOf x==some .cell)=true then NameKind.cell else k:=lM X.env scope.names x;rw[e,c4,Option.map_some];split
   .exact .inl rfl
   .exact .inr rfl
  .rcases l with ⟨Y,_⟩|⟨_,c,hc,z⟩
   .rcases Q with q|q<;>rw[Y] at q<;>cases q
   .refine⟨c,?_,?_⟩
    .show (qZ X.env scope.names []).lookup x=_
     rw[jW _ _ _ d,ac_ T];exact hc
    .obtain⟨o,A,J⟩:=z
     exact⟨o,old c o A,J⟩
 .obtain⟨v,o,A,J⟩:=I.cell x c (sub e)
  exact⟨v,o,old c o A,J⟩
 .show upd H D (.lst []) C=none
  rw[aF DC.symm];exact P
 .show upd H D (.lst []) c=none
  rw[aF (abX (by have:=DX (O x c (sub e));lia))];exact I.jr x c (sub e)
 .cases V
 .exact⟨Nat.zero_le _,[],0,.nil,W⟩
 .show (own.map (λ_=>none)++caps.map _).length=N.length
  rw[abf,aae,aae,S.len]
theorem Inv.Ss{h:St}(I:Inv X pins σ H s)(d:∀b∈fp,rJ X pins H b)(l:s.heap.objs.size<=C)(J:Inv (gG X scope C N s H fp) pO h H' s')(hs:Heap.SameBut C s'.heap h'):
 Inv X pins σ H' {s' with heap:=h'}:=by
 have i:∀b o,s.heap.get? b=some o->b≠C:=λb o e=>abX (by have:=DX (aap e);lia);have u:=J.base;have g:H' C=none:=J.free;refine I.call' (ch:=fp) (s':={s' with heap:=h'}) J.os ⟨λb o e n c f=>?_,λb o e n c f=>?_,u.free,λb o e f=>?_,u.tups,u.vN,u.wQ⟩ (λa o e=>(J.hok a o e).stay (λb v c q=>?_) (λ_ q=>q) λ_ _ q=>q) J.bare λb c=>?_
 .exact(hs.2 b (i b o e)).trans (u.keep b o e n c f)
 .obtain⟨j,q⟩:=u.slot b o e n c f
  exact⟨j,(hs.2 b (i b o e)).trans q⟩
 .obtain⟨k,q⟩:=u.there b o e f
  exact⟨k,(hs.2 b (i b o e)).trans q⟩
 .refine(hs.2 b ?_).trans q
  intro z;subst z;rcases c with z|z
  .subst z;rw[g] at e;cases e
  .rw[g] at z;cases z
 .exact⟨(d b c).2.2.2.1,(d b c).2.1,(d b c).2.2.2.2.1,(d b c).2.2.2.2.2⟩
end
section
variable{prog:Program}{R:Result->Shared->Prop}
theorem G_{elt target:Expr}{a:Scope}{it d:Value}(I:Nat->Shared->Prop)(turn:∀n s,I n s->wpAny (model prog w) A (pyNext it) (λr g=>match r with
   | none=>R (.ok .next) g
   | some v=>wpAny (model prog w) A (letOwnedTupleGo target it v) (λ_ e=>wpAny (model prog w) A (assign target env v) (λ_ l=>
      wpAny (model prog w) A (forIn ifs true λc r=>if r=true then do let ok ←isTrue c env (eval c env);pure (ForInStep.yield ok) else pure (ForInStep.yield r)) (λok f=>
       if ok=true then wpAny (model prog w) A (eval elt env) (λx k=>
        wpAny (model prog w) A (call (.builtin "list.append") [d,x]) (λ_ j=>∃m,m<n/\I m j) (λ_ _=>False) k) (λ_ _=>False) f
       else ∃m,m<n/\I m f) (λ_ _=>False) l) (λ_ _=>False) e) (λ_ _=>False) g) (λ_ _=>False) s)(n:Nat)(h:I n s):
 codeAny (model prog w) A (.compLoop (.ListComp elt [⟨target,iter,ifs,0⟩] a pos) 0 it d env) R s:=by
 refine codeAny_loop rfl I (λn s q=>?_) n h;show wpAny _ A ((compTurn (.ListComp elt [⟨target,iter,ifs,0⟩] a pos) 0 it d env).onRaise (λx=>do noteFrame x env;theTreesLotGoes x)) _ _ s;refine wpAny_noted ?_;rw[compTurn_list];refine aax (wpAny_standAt (aax (wpAny_mono (turn n s q) (λr g p=>?_) λ_ _ b=>b.elim)));cases r with
 | none=>exact aay p
 | some v=>
   refine aax (wpAny_mono p (λ_ e i=>?_) λ_ _ b=>b.elim);refine aax (wpAny_mono i (λ_ l y=>aax (wpAny_mono y (λok f o=>?_) λ_ _ b=>b.elim)) λ_ _ b=>b.elim);cases ok with
   | false=>exact aay ⟨Z,o⟩
   | true=>
     exact aax (aax (wpAny_mono o (λx k u=>aax (wpAny_mono u (λ_ j t=>aay (aay ⟨Z,t⟩)) λ_ _ b=>b.elim)) λ_ _ b=>b.elim))
end
def PTs(X:Cx)(ifs:List Expr)(t:TT):Prop:=
 ∀(pins:zzw)(s:Shared)(σ:St)(H:Hp)(Q:Bool->Hp->Prop),Inv X pins σ H s->t σ H Q ->
  wpAny (model X.prog X.w) X.A (forIn ifs true λc r=>if r=true then do let ok ←isTrue c X.env (eval c X.env);pure (ForInStep.yield ok) else pure (ForInStep.yield r)) (TP X pins σ Q) X.xe s
def yK:TT:=λ_ H Q=>Q true H
theorem dF:PTs X [] yK:=λ_ _ _ H _ I h=>wpAny_tests_nil ⟨H,I,h⟩
theorem rZ{t:TT}(h:PT X c t):PTs X [c] t:=λa s b H Q I q=>wpAny_tests_one (h a s b H Q I q)
def jk(J:It)(g:TG)(l:TT)(k:TE)(Q:VK)(D:Addr)(e:St)(H1:Hp):Prop:=
 ∃W:Nat->Nat->St->Hp->Prop,(∃m,W 0 m e (upd H1 D (.lst []))) /\ ∀i m σ H,W i m σ H ->
  (J.stop i H/\Q (.ref D) H)\/(J.go i H /\ ∃N:St->Hp->Prop,(∀d H',N d H' -> ∃f,f<m/\W (i+1) f d H') /\ ∀x H',J.yld i H x H'->g x σ H' λa H2=>l a H2 λb j=>
    if b=true then k a j λy h=>∃c,h D=some (.lst c)/\c.length<sizeLine/\N a (upd h D (.lst (c++[y]))) else N a j)
def Tj(own:List Str)(caps:List Nat)(a:TI)(g:TG)(c:TT)(b:TE):TE:=λσ H Q=>a σ H λJ H1=>∀D,H1 D=none->jk J g c b Q D (st0 own caps σ) H1
section
variable{elt:Expr}{scope:Scope}
theorem JV{use:Option (Value->Sem Unit)}{Qv:zzx}{Q:VK}(hc:X.calm=true)(S:bB N own caps X.N X.env.scope scope)(hg:∀C s H fp,PG (gG X scope C N s H fp) tg g)(a4:∀C s H fp,PTs (gG X scope C N s H fp) ifs tc)(he:∀C s H fp,PE (gG X scope C N s H fp) elt te)(hi:PI X tg iter wi)(hs:∀x,foldedSetIterable iter X.env x=pure x)(I:Inv X pins σ H s)(h:Tj own caps wi g tc te σ H Q)(a7:∀(D C:Addr)(H':Hp)(s':Shared),(∃m,s'.heap.Ns C m)->Inv X pins σ H' s'->(∀h',Heap.SameBut C s'.heap h'->Inv X pins σ H' {s' with heap:=h'})->rJ X pins H' C->Q (.ref D) H' ->
   compPost (model X.prog X.w) X.A X.xe use Qv (.ref D) C (.ok .next) s'):
 wpAny (model X.prog X.w) X.A (comprehension (.ListComp elt [⟨tg,iter,ifs,0⟩] scope pos) scope X.env (firstIterPos [⟨tg,iter,ifs,0⟩] pos) (newList []) false (eval iter X.env) use) Qv X.xe s:=by
 refine wpAny_comprehension_free (use:=use) rfl hs (L_ (S.Wr I.ok)) S.kind S.names (dG (hi pins s σ H _ I h) λxv s1 V=>dG V λb0 a h2=>?_);obtain⟨it,fp,tn,J,H2,e,L,T,E,K,q2⟩:=h2;subst e;refine wpAny_newList ?_;refine wpAny_newFunctionEnv S.Vp (by intro y hy;simp at hy) (λV a1 l=>?_) S.kind;dsimp only at a1 l ⊢;have hD:H2 a.heap.objs.size=none:=L.hok.fresh (aaw _);have F:(a.heap.push {cls:= .type "list",data:= .seq ([]:zzt).toArray}).objs.size=a.heap.objs.size+1:=Heap.size_push ..
 have old:∀b o,a.heap.get? b=some o->V.get? b=some o:=λb o e=>by
  refine l.extBut b o (abX (by have:=DX (aap e);rw[F];lia)) (aan _ (aan _ e))
 have hl:V.get? a.heap.objs.size=some {cls:= .type "list",data:= .seq #[]}:=
  l.extBut _ _ (abX (by rw[F];lia)) (aan _ (aao _ rfl))
 have G:∀b∈fp,∃o,a.heap.get? b=some o:=λb f=>let ⟨o,e,_⟩:=T.obj _ _ E b f;⟨o,e⟩
 have I4:=Inv.comp (C:=(a.heap.push {cls:= .type "list",data:= .seq ([]:zzt).toArray}).objs.size) (t:=a.toks+([]:List (Str×Value)).length) L S K G rfl F old a1 hl;obtain⟨W,⟨m0,w0⟩,turn⟩:=q2 _ hD;generalize b4:(a.heap.push {cls:= .type "list",data:= .seq ([]:zzt).toArray}).objs.size=C at *;generalize b2:a.heap.objs.size=D at *;have b3:D≠C:=by lia
 have loop:∀O:Shared,O={a with heap:=V,toks:=a.toks+([]:List (Str×Value)).length} ->
  codeAny (model X.prog X.w) X.A (.compLoop (.ListComp elt [⟨tg,iter,ifs,0⟩] scope pos) 0 (.ref it) (.ref D) (gG X scope C N a H2 fp).env) (compPost (model X.prog X.w) X.A X.xe use Qv (.ref D) C) O:=by
  rintro O rfl
  have JD:∀b∈fp,(upd H2 D (.lst [])) b=none:=λb f=>by
   obtain⟨o,e⟩:=G b f;rw[aF (abX (by have:=DX (aap e);lia))];exact(K b f).1
  have k:∀{H':Hp},(∀b∈fp,H' b=none) -> ∀b∈fp,rJ (gG X scope C N a H2 fp) [] H' b:=λhn b f=>by
   obtain⟨o,e⟩:=G b f;have b1:=DX (aap e);refine⟨hn b f,?_,λz=>?_,.inl f,λx c e'=>(K b f).2.2.2.2.1 x c (S.csub L.ok e'),λp hp=>(by cases hp)⟩
   .exact abX (show @LT.lt Nat _ b C by lia)
   .rcases List.mem_cons.mp (L.Ac b z) with q|q
    .exact(K b f).2.1 q
    .exact(K b f).2.2.1 q
  refine G_ (λn s'=>∃i j H',Inv (gG X scope C N a H2 fp) [] j H' s'/\tn i s'.heap/\(∀b∈fp,H' b=none)/\W i n j H') ?_ m0
   ⟨0,_,_,I4,T.keep _ _ _ E λb _ o e=>old b o e,JD,w0⟩
  rintro n O ⟨i,B,H3,I3,R,a0,w3⟩;rcases turn i n B H3 w3 with ⟨stop,qn⟩|⟨go,Nx,a5,step⟩
  .refine dG (T.done (gG X scope C N a H2 fp) rfl rfl rfl hc i [] O B H3 _ I3 (k a0) R stop) λr s4 ⟨hr,J4⟩=>?_
   subst hr;obtain⟨m4,a3,_⟩:=J4.loc;exact a7 D C H3 s4 ⟨m4,a3⟩ (L.Ss K (by lia) J4 (Heap.SameBut.refl _ _)) (λh' a2=>L.Ss K (by lia) J4 a2) (L.yS (show a.heap.objs.size<=C by lia) J4.free) qn
  .refine dG (T.item (gG X scope C N a H2 fp) rfl rfl rfl hc i [] O B H3 _ I3 (k a0) R go) λr s4 ⟨u,hr,h4⟩=>?_
   subst hr;refine dG h4 λ_ s5 Y=>?_;obtain⟨x,H5,I5,r5,y5,XF,a6⟩:=Y;have a9:=I5.pinned (k a6) (T.obj _ _ XF);refine dG (hg C a H2 fp _ s5 B H5 x u _ a9 r5 (step x H5 y5)) λ_ s6 Y=>?_;obtain⟨A,H6,I6,q6⟩:=Y;refine dG (a4 C a H2 fp _ s6 A H6 _ I6 q6) λok s7 ⟨H7,I7,q7⟩=>?_
   have again:∀{w:St}{P:Hp}{M:Shared},Inv (gG X scope C N a H2 fp) ([]++Bp fp s5.heap) w P M->Nx w P -> ∃m,m<n /\ ∃i j H',Inv (gG X scope C N a H2 fp) [] j H' M/\tn i M.heap/\(∀b∈fp,H' b=none)/\W i m j H':=fun {w P M} I8 n8=>by
    obtain⟨m',hm,w8⟩:=a5 _ _ n8;refine⟨m',hm,i+1,w,P,I8.uL,T.keep _ _ _ XF λb f o e=>(I8.pin (b,o) (List.mem_append_right _ (List.mem_append_right _ (pB f e)))).1,λb f=>?_,w8⟩;obtain⟨o,e,d⟩:=T.obj _ _ XF b f;exact(I8.pin (b,o) (List.mem_append_right _ (List.mem_append_right _ (pB f e)))).2.1
   cases ok with
   | false=>
     rw[ac9 (by decide)] at q7;exact again I7 q7
   | true=>
     rw[ac_ rfl] at q7;refine dG (he C a H2 fp _ s7 A H7 _ I7 q7) λy M Y=>?_;obtain⟨yv,P,I8,r8,a8,ha,U,q8⟩:=Y;exact dG (D_ _ M A P (.ref D) [yv] (.ref D) [y] (λv H9=>Nx A H9) I8 rfl (.cons r8 .nil) ⟨D,a8,yv,Z,Z,ha,U,q8⟩) λ_ s9 ⟨_,H9,I9,_,q9⟩=>again I9 q9
 exact codeAny_compStart_list (loop _ rfl) (T.self _ 0 _ _ _ (T.keep _ _ _ E λb _ o e=>old b o e) (loop _ rfl))
theorem dZ(i:X.calm=true)(S:bB N own caps X.N X.env.scope scope)(hi:PI X tg iter wi)(f:∀C s H fp,PG (gG X scope C N s H fp) tg g)(c:∀C s H fp,PTs (gG X scope C N s H fp) ifs tc)(he:∀C s H fp,PE (gG X scope C N s H fp) elt te)(hs:∀x,foldedSetIterable iter X.env x=pure x:=by intro _;rfl):PE X (.ListComp elt [⟨tg,iter,ifs,0⟩] scope pos) (Tj own caps wi g tc te):=by
 intro d s l H Q I h;rw[eval_ListComp];refine JV (use:=none) i S f c he hi hs I h ?_;intro D C k n b o e _ q;obtain⟨m,b⟩:=b;exact⟨m,b,λj a=>⟨.ref D,k,e j a,Z,q⟩⟩
theorem mL{c sp:Pos}(P:X.calm=true)(R:X.N.Nodup)(G:X.N[i]?=some x)(L:Loc X.env.scope x)(S:bB N own caps X.N X.env.scope scope)(hi:PI X tg iter wi)(M:∀C s H fp,PG (gG X scope C N s H fp) tg g)(t:∀C s H fp,PTs (gG X scope C N s H fp) ifs tc)(he:∀C s H fp,PE (gG X scope C N s H fp) elt te)(l:swapsWith (.ListComp elt [⟨tg,iter,ifs,0⟩] scope pos) (some (.Name x c)) sp.line X.env=pure true:=by rfl)(hs:∀x,foldedSetIterable iter X.env x=pure x:=by intro _;rfl)(O:X.fn x=true\/X.env.scope.names.lookup x=some .local:=by first |exact .inl rfl|exact .inr rfl|assumption):
 PS X (.Assign [.Name x c] (.ListComp elt [⟨tg,iter,ifs,0⟩] scope pos) sp) (Xz (Tj own caps wi g tc te) (bU i)):=by
 intro d s σ H D I h;rw[exec_Assign_Name_used _ _ _ _ l];refine aax (wpAny_standAt (aax ?_));show wpAny _ X.A (do let _ ←comprehension (.ListComp elt [⟨tg,iter,ifs,0⟩] scope pos) scope X.env (firstIterPos [⟨tg,iter,ifs,0⟩] pos) (newList []) false (eval iter X.env) (some (assign (.Name x c) X.env))) _ _ s;refine aax (wpAny_mono (JV (use:=some (assign (.Name x c) X.env)) (Qv:=λ_ f=>SP X d D .next f) P S M t he hi hs I h ?_) (λ_ f J=>aay (aay J)) λ_ _ e=>e);intro E C H' f p I' hk T q;obtain⟨m,p⟩:=p;obtain⟨W,y,f2,V,w,U⟩:=T;show wpAny _ X.A (assign (.Name x c) X.env (.ref E)) _ _ _;refine wpAny_assign_Name (Dv I' R G L (v:= .ref E) rfl (λA I2 k=>?_) O);refine⟨m,?_,λh' n=>?_⟩
 .obtain⟨o,Y,ep,K,r⟩:=p
  obtain⟨a,B,F⟩:=k
  have u:C≠a:=λz=>by
   rcases F with j|j
   .exact y (z.trans j)
   .exact w x a j z.symm
  exact⟨o,Y,ep,(B.2 C u).trans K,r⟩
 .exact⟨_,H',I2.turned (t':=A.toks) (λb o Q e=>(n.2 b Q).trans e) W y V w U,q⟩
end
def Wu(N own:List Str)(caps:List Nat)(b:List Str)(outer a:Scope):Bool:=
 decide (a.kind=.function)&&a.names.all (λy=>decide (y.2 ≠ .cell))&&a.names.all (λy=>decide (y.2 ≠ .local)||decide (a.names.lookup y.1=some .local)) &&
 a.names.all (λy=>decide (y.2 ≠ .free)||decide (outer.names.lookup y.1=some .cell)||decide (outer.names.lookup y.1=some .free))&&decide N.Nodup&&decide (N.length=own.length+caps.length) &&
 (List.range caps.length).all (λj=>match N[own.length+j]? with |some x=>decide (b[caps.getD j 0]?=some x)&&decide ((x,NameKind.free)∈a.names)&&decide (a.names.lookup x=some .free)|none=>false)
theorem bB.of{outer a:Scope}(h:Wu N own caps XN outer a=true):bB N own caps XN outer a:=by
 unfold Wu at h;simp only[acg,decide_eq_true_eq,List.all_eq_true,Bool.or_eq_true] at h;obtain⟨⟨⟨⟨⟨⟨m,l⟩,k⟩,i⟩,g⟩,f⟩,d⟩:=h;refine⟨m,l,λy b e=>?_,λy b e=>?_,g,f,λj c=>?_⟩
 .rcases k y b with z|z
  .exact ac' e z
  .exact z
 .rcases i y b with (z|z)|z
  .exact ac' e z
  .exact .inl z
  .exact .inr z
 .have q:=d j (acZ.mpr c)
  cases e:N[own.length+j]? with
  | none=>rw[e] at q;cases q
  | some x=>
    rw[e] at q;simp only[acg,decide_eq_true_eq] at q;exact⟨q.1.1.symm,x,Z,q.1.2,q.2⟩
mutual
noncomputable def Dat(H:Hp):V->PyData->Prop
 | v,.none=>v=.non
 | v,.bool b=>v=.bl b
 | v,.int i=>v=.int i
 | v,.str x=>v=.str x
 | v,.list ds=>∃a vs,v=.ref a/\H a=some (.lst vs)/\aR H vs ds
 | v,.tuple ds=>∃a vs,v=.ref a/\H a=some (.tup vs)/\aR H vs ds
 | _,.dict _=>False
noncomputable def aR(H:Hp):List V->List PyData->Prop
 | [],[]=>True
 | v::vs,d::ds=>Dat H v d/\aR H vs ds
 | [],_::_=>False
 | _::_,[]=>False
end
theorem aR.length:∀{vs:List V}{ds:List PyData},aR H vs ds->vs.length=ds.length
 | [],[],_=>rfl
 | _::_,_::_,h=>by simp only[aR] at h;simp[aR.length h.2]
 | [],_::_,h=>by simp only[aR] at h
 | _::_,[],h=>by simp only[aR] at h
theorem aR.get:∀{vs:List V}{ds:List PyData}{i:Nat}{v:V},aR H vs ds->vs[i]?=some v -> ∃d,ds[i]?=some d/\Dat H v d
 | _::_,_::_,0,_,h,e=>by simp only[aR] at h;simp at e;subst e;exact⟨_,Z,h.1⟩
 | _::_,_::_,i+1,_,h,e=>by simp only[aR] at h;simp at e;obtain⟨d,q,r⟩:=aR.get h.2 e;exact⟨d,by simpa using q,r⟩
 | [],[],_,_,_,e=>by simp at e
 | [],_::_,_,_,h,_=>by simp only[aR] at h
 | _::_,[],_,_,h,_=>by simp only[aR] at h
theorem aR.getD:∀{vs:List V}{ds:List PyData}{i:Nat}{d:PyData},aR H vs ds->ds[i]?=some d -> ∃v,vs[i]?=some v/\Dat H v d
 | _::_,_::_,0,_,h,e=>by simp only[aR] at h;simp at e;subst e;exact⟨_,Z,h.1⟩
 | _::_,_::_,i+1,_,h,e=>by simp only[aR] at h;simp at e;obtain⟨d,q,r⟩:=aR.getD h.2 e;exact⟨d,by simpa using q,r⟩
 | [],[],_,_,_,e=>by simp at e
 | [],_::_,_,_,h,_=>by simp only[aR] at h
 | _::_,[],_,_,h,_=>by simp only[aR] at h
theorem aR.append:∀{vs ws:List V}{ds es:List PyData},aR H vs ds->aR H ws es->aR H (vs++ws) (ds++es)
 | [],_,[],_,_,g=>g
 | _::_,_,_::_,_,h,g=>by simp only[aR,List.cons_append] at h ⊢;exact⟨h.1,aR.append h.2 g⟩
 | [],_,_::_,_,h,_=>by simp only[aR] at h
 | _::_,_,[],_,h,_=>by simp only[aR] at h
theorem aR.ints(ns:List Int):aR H (ns.map V.int) (ns.map PyData.int):=by
 induction ns with
 | nil=>simp only[List.map_nil,aR]
 | cons n r a=>simp only[List.map_cons,aR,Dat];exact⟨trivial,a⟩
mutual
theorem Dat.mono(c:∀a xs,H a=some (HO.lst xs)->H' a=some (HO.lst xs))(b:∀a xs,H a=some (HO.tup xs)->H' a=some (HO.tup xs)):∀(d:PyData){v:V},Dat H v d->Dat H' v d
 | .none,_,h=>by simp only[Dat] at h ⊢;exact h
 | .bool _,_,h=>by simp only[Dat] at h ⊢;exact h
 | .int _,_,h=>by simp only[Dat] at h ⊢;exact h
 | .str _,_,h=>by simp only[Dat] at h ⊢;exact h
 | .list ds,_,h=>by simp only[Dat] at h ⊢;obtain⟨a,vs,e,q,r⟩:=h;exact⟨a,vs,e,c _ _ q,aR.mono c b ds r⟩
 | .tuple ds,_,h=>by simp only[Dat] at h ⊢;obtain⟨a,vs,e,q,r⟩:=h;exact⟨a,vs,e,b _ _ q,aR.mono c b ds r⟩
 | .dict _,_,h=>by simp only[Dat] at h
theorem aR.mono(c:∀a xs,H a=some (HO.lst xs)->H' a=some (HO.lst xs))(b:∀a xs,H a=some (HO.tup xs)->H' a=some (HO.tup xs)):∀(ds:List PyData){vs:List V},aR H vs ds->aR H' vs ds
 | [],[],_=>by simp only[aR]
 | d::ds,v::vs,h=>by simp only[aR] at h ⊢;exact⟨Dat.mono c b d h.1,aR.mono c b ds h.2⟩
 | _::_,[],h=>by simp only[aR] at h
 | [],_::_,h=>by simp only[aR] at h
end
mutual
noncomputable def CK:PyData->Bool
 | .tuple ds=>qT ds
 | .list _ | .dict _=>false
 | .none | .bool _ | .int _ | .str _=>true
noncomputable def qT:List PyData->Bool
 | []=>true
 | d::ds=>CK d&&qT ds
end
mutual
theorem Dat.keep(b:∀a xs,H a=some (HO.tup xs)->H' a=some (HO.tup xs)):∀(d:PyData){v:V},CK d=true->Dat H v d->Dat H' v d
 | .none,_,_,h=>by simp only[Dat] at h ⊢;exact h
 | .bool _,_,_,h=>by simp only[Dat] at h ⊢;exact h
 | .int _,_,_,h=>by simp only[Dat] at h ⊢;exact h
 | .str _,_,_,h=>by simp only[Dat] at h ⊢;exact h
 | .list ds,_,i,h=>by simp only[CK] at i;cases i
 | .tuple ds,_,i,h=>by simp only[Dat] at h ⊢;simp only[CK] at i;obtain⟨a,vs,e,q,r⟩:=h;exact⟨a,vs,e,b _ _ q,aR.keep b ds i r⟩
 | .dict _,_,_,h=>by simp only[Dat] at h
theorem aR.keep(b:∀a xs,H a=some (HO.tup xs)->H' a=some (HO.tup xs)):∀(ds:List PyData){vs:List V},qT ds=true->aR H vs ds->aR H' vs ds
 | [],[],_,_=>by simp only[aR]
 | d::ds,v::vs,i,h=>by simp only[aR] at h ⊢;simp only[qT,acg] at i;exact⟨Dat.keep b d i.1 h.1,aR.keep b ds i.2 h.2⟩
 | _::_,[],_,h=>by simp only[aR] at h
 | [],_::_,_,h=>by simp only[aR] at h
end
theorem cH{α:Type}(f:α->PyData)(h:∀x,CK (f x)=true):∀l:List α,qT (l.map f)=true
 | []=>rfl
 | a::l=>by simp only[List.map_cons,qT,h a,cH f h l,Bool.and_self]
mutual
theorem Inv.reads(I:Inv X pins σ H s):∀(d:PyData){v:V}{u:Value},Dat H v d->RelV v u -> ∃as,Reads s.heap u d as
 | .none,v,u,h,r=>by
   simp only[Dat] at h;subst h;cases (show u=Value.none from r);exact⟨_,.none⟩
 | .bool b,v,u,h,r=>by
   simp only[Dat] at h;subst h;cases (show u=Value.bool b from r);exact⟨_,.bool b⟩
 | .int i,v,u,h,r=>by
   simp only[Dat] at h;subst h;obtain⟨t,q⟩:=(show ∃t,u=Value.int i t from r);cases q;exact⟨_,.int i t⟩
 | .str x,v,u,h,r=>by
   simp only[Dat] at h;subst h;obtain⟨t,q⟩:=(show ∃t,u=Value.str x t from r);cases q;exact⟨_,.str x t⟩
 | .list m,v,u,h,r=>by
   simp only[Dat] at h;obtain⟨a,w,rfl,q,g⟩:=h;cases (show u=Value.ref a from r);obtain⟨f,c,p,y⟩:=I.list (bG.of q);obtain⟨o,j,l,n,k⟩:=p.isList;obtain⟨as,e⟩:=Inv.readsAll I m g c;exact⟨_,.list j l k (by simpa using e)⟩
 | .tuple m,v,u,h,r=>by
   simp only[Dat] at h;obtain⟨a,w,rfl,q,g⟩:=h;cases (show u=Value.ref a from r);obtain⟨f,c,p,y⟩:=I.tuple (cD.of q);obtain⟨o,j,l,n,k⟩:=p;obtain⟨as,e⟩:=Inv.readsAll I m g c;exact⟨_,.tuple j l k (by simpa using e)⟩
 | .dict _,_,_,h,_=>by simp only[Dat] at h
theorem Inv.readsAll(I:Inv X pins σ H s):∀(ds:List PyData){vs:List V}{us:zzt},aR H vs ds->Vals vs us -> ∃as,ReadsAll s.heap us ds as
 | [],[],_,_,.nil=>⟨_,.nil⟩
 | d::ds,v::vs,_,h,.cons r rs=>by
   simp only[aR] at h;obtain⟨as,b⟩:=Inv.reads I d h.1 r;obtain⟨bs,a⟩:=Inv.readsAll I ds h.2 rs;exact⟨_,.cons b a⟩
 | _::_,[],_,h,_=>by simp only[aR] at h
 | [],_::_,_,h,_=>by simp only[aR] at h
end
inductive Ub(neg:Bool)(x y:V)(H:Hp)(Q:VK):Prop|m:∀d e,Dat H x d->Dat H y e->SeqAt.shaped d=true->SeqAt.shaped e=true->(Q (.bl (if neg then !PyData.eqv d e else PyData.eqv d e)) H)->Ub neg x y H Q
theorem abC(k:X.A.units+64<cLine):sZ X (compareOp .Eq) (Ub false):=by
 intro a s n H x y v u Q I g f h;obtain⟨d,e,m,l,c,b,q⟩:=h;obtain⟨as,j⟩:=I.reads d m g;obtain⟨bs,i⟩:=I.reads e l f;exact SeqAt.compareEq_shaped j i c b k ⟨.bl _,H,I,Z,q⟩
theorem abB(k:X.A.units+64<cLine):sZ X (compareOp .NotEq) (Ub true):=by
 intro a s n H x y v u Q I g f h;obtain⟨d,e,m,l,c,b,q⟩:=h;obtain⟨as,j⟩:=I.reads d m g;obtain⟨bs,i⟩:=I.reads e l f;exact SeqAt.compareNe_shaped j i c b k ⟨.bl _,H,I,Z,q⟩
theorem Wx{c:Value}(rc:RelV cv c):jt X (.builtin "isinstance") (λxs H Q=>∃x t b,xs=[x,cv]/\uz X.K H x t/\W.kitOne X.K t c=some b/\Q (.bl b) H):=by
 intro g s k H xs l Q I r h;obtain⟨x,t,b,rfl,ty,e,q⟩:=h;obtain⟨u,d,rfl,j,f⟩:=vals2 r
 have:d=c:=by
  cases cv with
  | non=>exact(show d=Value.none from f).trans (show c=Value.none from rc).symm
  | bl b=>exact(show d=Value.bool b from f).trans (show c=Value.bool b from rc).symm
  | ref a=>exact(show d=Value.ref a from f).trans (show c=Value.ref a from rc).symm
  | ty n=>exact(show d=Value.type n from f).trans (show c=Value.type n from rc).symm
  | int i=>obtain⟨t1,rfl⟩:=(show ∃t,c=Value.int i t from rc);unfold W.kitOne at e;exact ac' e (by cases ty<;>simp[W.kitCls])
  | str i=>obtain⟨t1,rfl⟩:=(show ∃t,c=Value.str i t from rc);unfold W.kitOne at e;exact ac' e (by cases ty<;>simp[W.kitCls])
  | Mi i=>obtain⟨t1,rfl⟩:=(show ∃t,c=Value.bytes i t from rc);unfold W.kitOne at e;exact ac' e (by cases ty<;>simp[W.kitCls])
  | flt i=>obtain⟨t1,rfl⟩:=(show ∃t,c=Value.float i t from rc);unfold W.kitOne at e;exact ac' e (by cases ty<;>simp[W.kitCls])
 subst this;exact QW I j ty e λm=>⟨.bl b,H,I.tok _,Z,q⟩
section
variable{prog:Program}
theorem zX(t:A.handled=none)(it a:Addr)(m:it≠a)(c:zzt):Walks prog w A it [it,a] [it] c.length (λi v=>c[i]?=some v) (λi h=>h.IsListIter it a i/\h.IsList a c.toArray) where
 sub:=by simp
 frame:=λi h j ⟨d,o,r,u⟩ k=>⟨d.at λo e=>k it (by simp) o e,o,k a (by simp) o r,u⟩
 item:=λi s Q E q ⟨d,g⟩ f=>wpAny_pyNext_list_item d g (x:=c[i]) (by simp[q]) λj l p=>
  f _ j s.toks (by simp[q]) ⟨l,g.extBut p.extBut m.symm⟩ λb o n e=>(p.2 b (by simpa using n)).trans e
 done:=λs Q E ⟨d,g⟩ f=>wpAny_pyNext_list_end t d g (by simp) λj y=>f j s.toks λb o n e=>y b o (by simpa using n) e
 self:=λi s Q E ⟨d,_⟩ f=>wpAny_pyIter_listiter d f
end
theorem CT(bs:List Bool):(List.range bs.length).all (λi=>(bs[i]?).getD false)=bs.all id:=by
 rw[Bool.eq_iff_iff,List.all_eq_true,List.all_eq_true];constructor
 .intro h b d
  obtain⟨i,c,rfl⟩:=ac2 d;have:=h i (by simpa using c);simpa [c] using this
 .intro h i c
  have a:i<bs.length:=by simpa using c
  simpa [a] using h bs[i] (List.getElem_mem a)
theorem Ks{bs:List Bool}:∀{us:zzt},Vals (bs.map V.bl) us->us=bs.map Value.bool:=by
 induction bs with
 | nil=>intro us r;cases r;rfl
 | cons b bs c=>
   intro us r;cases r with
   | cons r a=>cases (show _=Value.bool b from r);rw[c a];rfl
theorem Cg(B:X.calm=true):jt X (.builtin "all") (λxs H Q=>∃(p:Addr) (bs:List Bool),xs=[.ref p]/\bG X.K H p (bs.map V.bl)/\Q (.bl (bs.all id)) H):=by
 intro c s w H xs E Q I r h;obtain⟨p,bs,rfl,A,q⟩:=h;obtain⟨u,rfl,x⟩:=vals1 r;cases x;obtain⟨a,y,j,G⟩:=I.list A;have e:=Ks y;have d:a.length=bs.length:=by rw[e,aae]
 refine call_all_walk (wpAny_pyIter_list j.isList ⟨s.heap.objs.size,[s.heap.objs.size,p],[s.heap.objs.size],a.length,_,_,λi=>(bs[i]?).getD false,Z,
  zX (show X.A.in1.handled=none from I.ok.hd B) s.heap.objs.size p ?_ a,⟨⟨_,aao _ rfl,Z,Z⟩,?_⟩,?_,?_⟩)
 .intro z
  obtain⟨o,l,_⟩:=j.isList;have:=aap l;rw[←z] at this;exact ac4 _ this
 .obtain⟨o,l,m⟩:=j.isList
  exact⟨o,aan _ l,m⟩
 .intro i v F J K g t
  rw[e,aam] at g;cases r:bs[i]? with
  | none=>rw[r] at g;cases g
  | some b=>
    rw[r] at g;cases g;simp only[r,Option.getD_some] at t;exact wpAny_truthy_bool t
 .intro h' n k
  rw[d,CT];have f:=I.yS (H':=H) (b:=s.heap.objs.size) (aaw _) (I.hok.fresh (aaw _));have D:Inv X c w H {s with heap:=h',toks:=n}:=I.turned (h':=h') (t':=n) (it:=s.heap.objs.size) (λb o C e=>k b o (by simpa using C) (aan _ e)) f.1 f.2.1 f.2.2.2.1 f.2.2.2.2.1 f.2.2.2.2.2;exact⟨.bl _,H,D,Z,q⟩
def FnAt(P:Program)(w:World)(K:zzy)(mg:zzv)(base:Heap)(k:Nat)(x:Str)(ps:List Str)(sp:Sp):Prop:=
 ∃f fd,bR P w K mg base iB k f fd ps sp/\mg x=some (.ref f)/\W.keepIn K (.ref f)=true/\Binds K fd ps []
section
variable{t:TA}{p:Pos}
theorem bN(F:FnAt X.prog X.w X.K X.mg X.base k x ps sp)(a:fJ k X.A)(d:Gl X x)(i:PA X (e::es) t)(g:(x==("__debug__" :Str))=false:=by decide)(he:starEach (e::es) X.env=(false,eval e X.env)::starEach es X.env:=by rfl)(hpl:(backTo pos (starEach es X.env)).any (·.1)=false:=by rfl):
 PE X (.Call (.Name x p) (e::es) [] pos) (Io sp [] E0 t):=by
 obtain⟨f,j,G,b,c,h⟩:=F;exact Yv G a d b c h .nil Jc i (hdb:=g) (he:=he) (hpl:=hpl)
end
theorem Hu:bootBuiltins "all" = some (.builtin "all"):=by kernel_rfl
theorem cG:bootBuiltins "len" = some (.builtin "len"):=by kernel_rfl
theorem WD:bootBuiltins "min" = some (.builtin "min"):=by kernel_rfl
theorem acy:bootBuiltins "max" = some (.builtin "max"):=by kernel_rfl
theorem Wz:bootBuiltins "sum" = some (.builtin "sum"):=by kernel_rfl
theorem Et:bootBuiltins "sorted" = some (.builtin "sorted"):=by kernel_rfl
theorem bM:bootBuiltins "isinstance" = some (.builtin "isinstance"):=by kernel_rfl
theorem Ci:bootBuiltins "int" = some (.type "int"):=by kernel_rfl
theorem v9:bootBuiltins "bool" = some (.type "bool"):=by kernel_rfl
theorem fO:bootBuiltins "list" = some (.type "list"):=by kernel_rfl
theorem v8:bootBuiltins "tuple" = some (.type "tuple"):=by kernel_rfl
theorem acw:bootBuiltins "str" = some (.type "str"):=by kernel_rfl
theorem Oh:sZ X (binaryOp .Mult) (rI IntMulOk λi j=> .int (i*j)):=opI λ_ _ _ _ _ _ _ a q=>mul_int q a
def Kp(r:Addr)(H H':Hp):Prop:=∀b o,H b=some o->b≠r->H' b=some o
theorem Kp.of_same{r:Addr}(h:Same H H'):Kp r H H':=λb o e _=>h b o e
theorem Kp.trans{r:Addr}{H1 H2:Hp}(a:Kp r H H1)(b:Kp r H1 H2):Kp r H H2:=λc o h n=>b c o (a c o h n) n
theorem Kp.set{r:Addr}{o:HO}:Kp r H (upd H r o):=λb u e n=>by rw[aF n];exact e
theorem aH{o:HO}(h:H p=none):Same H (upd H p o):=λb u e=>by rw[aF (aA e h)];exact e
theorem Same.tups(e:Same H H'):∀a xs,H a=some (HO.tup xs)->H' a=some (HO.tup xs):=λa xs h=>e _ _ h
theorem Same.sqL(e:Same H H'):∀a xs,bG K H a xs->bG K H' a xs:=λa xs h=>e.seq h
theorem Kp.tups{r:Addr}(e:Kp r H H')(b:H r=some (.lst ys)):∀a xs,H a=some (HO.tup xs)->H' a=some (HO.tup xs):=λa xs h=>e _ _ h (dD h b (by intro z;cases z))
theorem aL(h:X.K=K):IxR X (qL K):=by subst h;exact Y6
theorem aX(h:X.K=K):IxR X (Ua K):=by subst h;exact ab6
theorem nW(h:X.K=K):SlR X (T_ K):=by subst h;exact XQ
theorem NP(h:X.K=K):SlR X (abh K):=by subst h;exact aa_
theorem Bq(h:X.K=K):sZ X (compareOp .In) (rIn K false):=by subst h;exact Qt
def ahe(K:zzy):List V->Hp->VK->Prop:=λxs H Q=>∃(p:Addr) (ys:List V),xs=[.ref p]/\(bG K H p ys\/cD K H p ys)/\Q (.int ys.length) H
theorem aW(h:X.K=K):jt X (.builtin "len") (ahe K):=by subst h;exact Hr
def Yh(K:zzy):List V->Hp->VK->Prop:=λxs H Q=>∃(p:Addr) (ys:List V),xs=[.ref p]/\(bG K H p ys\/cD K H p ys) /\ ∀l,H l=none->Q (.ref l) (upd H l (.lst ys))
theorem cC(h:X.K=K):jt X (.type "list") (Yh K):=by subst h;exact Hq
def ad9(K:zzy):List V->Hp->VK->Prop:=λxs H Q=>∃(p:Addr) (bs:List Bool),xs=[.ref p]/\bG K H p (bs.map V.bl)/\Q (.bl (bs.all id)) H
theorem iM(h:X.K=K)(a:X.calm=true):jt X (.builtin "all") (ad9 K):=by subst h;exact Cg a
theorem vA(h:X.K=K)(a:X.A.units+64<cLine):sZ X (compareOp .Eq) (Ub false):=by subst h;exact abC a
theorem Gn(h:X.K=K)(a:X.A.units+64<cLine):sZ X (compareOp .NotEq) (Ub true):=by subst h;exact abB a
theorem dg{l:Expr}(h:X.K=K)(a:PE X l tl):PI X tg l (aar K tl):=by subst h;exact Yr a
theorem Yp{l:Expr}(h:X.K=K)(a:PE X l tl):PI X tg l (aeu K tl):=by subst h;exact abp a
def ahf(K:zzy)(c:Value)(cv:V):List V->Hp->VK->Prop:=λxs H Q=>∃x t b,xs=[x,cv]/\uz K H x t/\W.kitOne K t c=some b/\Q (.bl b) H
theorem cR{c:Value}(h:X.K=K)(rc:RelV cv c):jt X (.builtin "isinstance") (ahf K c cv):=by subst h;exact Wx rc
theorem dO{o:Expr}{t:TA}(h:X.K=K)(f:PE X o to)(g:PA X [e] t)(c:attributeBase o "append" X.env (eval o X.env)=eval o X.env:=by rfl)(d:((backTo cpos (starEach [e] X.env)).all (λx=> !x.1)&&(backToKw cpos (keywordEach [] X.env)).all (λx=>x.1.isSome)
   && decide (([e]:List Expr).length+([]:List Keyword).length+(if ([]:List Keyword).isEmpty then 0 else 1)<30))=true:=by rfl)(b:(apos.endLine==cpos.line)=true:=by rfl)(hs:starEach [e] X.env=(false,eval e X.env)::starEach [] X.env:=by rfl)(a:(backTo cpos (starEach [] X.env)).any (·.1)=false:=by rfl):
 PE X (.Call (.Attribute o "append" apos) [e] [] cpos) (tBM K "list" vp to t):=by
 subst h;exact aaf F.plainAttrs_list F.slot_list_append F.type_list_append D_ f g c d b hs a
end L2
namespace L2
open PySem
section
variable{Q:VK}{H1:Hp}
theorem jE(d:Nat->St->Hp->Prop)(t:d 0 σ0 (upd H1 D (.lst [])))(o:∀i σ H,i<=xs.length->d i σ H->bG K H a xs)(hs:∀i x σ H,xs[i]?=some x->d i σ H->g x σ H λc H2=>tc c H2 λb k=>
   if b=true then te c k λy j=>∃f,j D=some (.lst f)/\f.length<sizeLine/\d (i+1) c (upd j D (.lst (f++[y]))) else d (i+1) c k)(s:∀σ H,d xs.length σ H->Q (.ref D) H):jk (ZR K a) g tc te Q D σ0 H1:=by
 refine⟨λi m σ H=>m=xs.length-i/\i<=xs.length/\d i σ H,⟨xs.length,by simp,Nat.zero_le _,t⟩,?_⟩;rintro i m σ H ⟨rfl,r,p⟩;have q:=o i σ H r p
 by_cases h:i<xs.length
 .refine .inr ⟨⟨xs,xs[i],q,by simp[h]⟩,d (i+1),λl u n=>⟨xs.length-(i+1),by lia,Z,h,n⟩,λx u y=>?_⟩
  obtain⟨e,y⟩:=y;subst e;exact hs i x σ _ (y xs q) p
 .have e:i=xs.length:=by lia
  subst e;exact .inl ⟨⟨xs,q,aaw _⟩,s σ H p⟩
theorem Wt(d:Nat->St->Hp->Prop)(t:d 0 σ0 (upd H1 D (.lst [])))(o:∀i σ H,i<=xs.length->d i σ H->cD K H a xs)(hs:∀i x σ H,xs[i]?=some x->d i σ H->g x σ H λc H2=>tc c H2 λb k=>
   if b=true then te c k λy j=>∃f,j D=some (.lst f)/\f.length<sizeLine/\d (i+1) c (upd j D (.lst (f++[y]))) else d (i+1) c k)(s:∀σ H,d xs.length σ H->Q (.ref D) H):jk (Itt K a) g tc te Q D σ0 H1:=by
 refine⟨λi m σ H=>m=xs.length-i/\i<=xs.length/\d i σ H,⟨xs.length,by simp,Nat.zero_le _,t⟩,?_⟩;rintro i m σ H ⟨rfl,r,p⟩;have q:=o i σ H r p
 by_cases h:i<xs.length
 .refine .inr ⟨⟨xs,xs[i],q,by simp[h]⟩,d (i+1),λl u n=>⟨xs.length-(i+1),by lia,Z,h,n⟩,λx u y=>?_⟩
  obtain⟨e,y⟩:=y;subst e;exact hs i x σ _ (y xs q) p
 .have e:i=xs.length:=by lia
  subst e;exact .inl ⟨⟨xs,q,aaw _⟩,s σ H p⟩
theorem jD{lo:Int}(f:Nat->St->Hp->Prop)(q:f 0 σ0 (upd H1 D (.lst [])))(hs:∀i σ H,i<n->f i σ H->g (.int (lo+i)) σ H λa H2=>tc a H2 λb j=>
   if b=true then te a j λy h=>∃d,h D=some (.lst d)/\d.length<sizeLine/\f (i+1) a (upd h D (.lst (d++[y]))) else f (i+1) a j)(o:∀σ H,f n σ H->Q (.ref D) H):jk (Xc lo n) g tc te Q D σ0 H1:=by
 refine⟨λi m σ H=>m=n-i/\i<=n/\f i σ H,⟨n,by simp,Nat.zero_le _,q⟩,?_⟩;rintro i m σ H ⟨rfl,s,p⟩
 by_cases c:i<n
 .refine .inr ⟨c,f (i+1),λk r l=>⟨n-(i+1),by lia,Z,c,l⟩,λx r y=>?_⟩
  obtain⟨e,y⟩:=y;subst e y;exact hs i σ _ c p
 .have e:i=n:=by lia
  subst e;exact .inl ⟨aaw _,o σ H p⟩
end
end L2
namespace L2
open PySem PySem.Spec PyProof.Rows
section
variable{α:Type}(f:α->PyData)
theorem jF:∀(l:List α),(∀x∈l,(f x).canLay0=true)->PyData.canLayAll0 (l.map f)=true
 | [],_=>rfl
 | a::l,h=>by
   show (PyData.canLay0 (f a)&&PyData.canLayAll0 (l.map f))=true;rw[h a List.mem_cons_self,jF l λx b=>h x (acq _ b)];rfl
theorem h_(k:Nat):∀(l:List α),(∀x∈l,(f x).depth<=k)->PyData.depthAll (l.map f)<=k
 | [],_=>Nat.zero_le _
 | a::l,h=>by
   show max (PyData.depth (f a)) (PyData.depthAll (l.map f))<=k;exact Nat.max_le.mpr ⟨h a List.mem_cons_self,h_ k l λx b=>h x (acq _ b)⟩
theorem yt{l:List α}(k:Nat)(e:k<64)(b:∀x∈l,(f x).canLay0=true)(a:∀x∈l,(f x).depth<=k):SeqAt.shaped (.list (l.map f))=true:=by
 unfold SeqAt.shaped;have d:PyData.canLay0 (.list (l.map f))=true:=jF f l b
 have c:PyData.depth (.list (l.map f))<=64:=by
  show PyData.depthAll (l.map f)+1<=64;have:=h_ f k l a;lia
 rw[d,aaO c];rfl
theorem B_[DecidableEq α](h:∀x y,PyData.eqv (f x) (f y)=decide (x=y)):∀(l m:List α),PyData.eqvAll (l.map f) (m.map f)=decide (l=m)
 | [],[]=>rfl
 | [],_::_=>by simp only[List.map_nil,List.map_cons,PyData.eqvAll];exact(aaQ (by intro z;cases z)).symm
 | _::_,[]=>by simp only[List.map_nil,List.map_cons,PyData.eqvAll];exact(aaQ (by intro z;cases z)).symm
 | a::l,b::m=>by
   simp only[List.map_cons,PyData.eqvAll];rw[h a b,B_ h l m]
   by_cases d:a=b
   .subst d
    by_cases c:l=m
    .subst c;simp
    .simp[c]
   .simp[d]
theorem lX[DecidableEq α](h:∀x y,PyData.eqv (f x) (f y)=decide (x=y))(l m:List α):PyData.eqv (.list (l.map f)) (.list (m.map f))=decide (l=m):=by
 simp only[PyData.eqv];exact B_ f h l m
end
theorem jc(h:H a=some (.lst vs))(d:aR H vs ds):Dat H (.ref a) (.list ds):=by
 simp only[Dat];exact⟨a,vs,Z,h,d⟩
theorem yC(K:zzy):W.kitOne K (.type "int") (.type "int")=some true:=Z
theorem pG(K:zzy):W.kitOne K (.type "int") (.type "bool")=some false:=by kernel_rfl
theorem jQ(K:zzy):W.kitOne K (.type "list") (.type "list")=some true:=Z
theorem iK(K:zzy):W.kitOne K (.type "tuple") (.type "tuple")=some true:=Z
theorem nO(K:zzy):W.kitOne K (.type "bool") (.type "bool")=some true:=Z
end L2
namespace L2
open PySem
theorem Ce(xs:List V)(k:Nat):lY xs none (some (k:Int))=xs.take k:=by
 unfold lY;rw[HT.Bd,HT.Gg,List.drop_zero,Nat.sub_zero]
 by_cases h:k<=xs.length
 .rw[Nat.min_eq_left h]
 .rw[Nat.min_eq_right (by lia),List.take_of_length_le (aaw _),List.take_of_length_le (by lia)]
theorem JT(xs:List V)(k:Nat):lY xs (some (k:Int)) none=xs.drop k:=by
 unfold lY;rw[HT.Bd,HT.Gg]
 by_cases h:k<=xs.length
 .rw[Nat.min_eq_left h,List.take_of_length_le (by rw[List.length_drop];exact aaw _)]
 .rw[Nat.min_eq_right (by lia),Nat.sub_self,List.take_zero,List.drop_of_length_le (by lia)]
end L2
namespace PySem.W
open PySem PySem.Spec PySem.Calls PyProof.Rows
theorem Zk:builtinKind "BaseException.__getattribute__" = some .slot:=by decide +kernel
theorem V4:splitId "BaseException.__getattribute__" = some ("BaseException","__getattribute__"):=by decide +kernel
section
variable{prog:Program}{K:Frag}{x:Addr}
theorem Em{M:Model}{a:Value}{Q:zzu}(X:K.In s.heap)(I:InstAt s.heap x ox D odo)(c:mroIn K D (.type "BaseException")=some true)(b:Q () s):
 wpAny M A (checkBuiltinCall "BaseException.__getattribute__" ⟨[.ref x,a],[]⟩) Q E s:=by
 obtain⟨e,g,d,t,os⟩:=s;have i:=I.type (M:=M);have h:=looks_mroIn (M:=M) X c;have f:=F.args_bexc_ga (.ref x) a;simp only[checkBuiltinCall,Zk,V4];unfold isInstance
 repeat (first |lk|wp_step)
 all_goals first |exact b|trace_state
theorem Wa{Q:Option Value->Shared->Prop}{c a:Value}(X:K.In s.heap)(I:InstAt s.heap x ox D odo)(i:findIn K (.ref D) "__getattribute__" = some (some (.builtin "BaseException.__getattribute__")))(k:findIn K (.ref D) "__getattr__" = some none)(n:mroIn K D (.type "BaseException")=some true)(m:findObj K D odo name=some (.bind c a))(FB:Slot "Exception" "__getattribute__" "BaseException.__getattribute__")(h:∀y,codeAny (model prog w) y (.call c ⟨[a,.ref x,.ref D],[]⟩) (λr s'=>match r with | .ok (.ret v)=>wpAny (model prog w) A (handedOut v) (λv b=>Q (some v) b) (λ_ _=>False) s'|_=>False) {s with toks:=s.toks+1}):
 wpAny (model prog w) A (getAttr? (.ref x) name) Q E s:=by
 obtain⟨l,g,d,t,os⟩:=s;have j:=I.type (M:=model prog w);have u:=looks_findIn (M:=model prog w) X i;have L2:=looks_findIn (M:=model prog w) X k;have p:=looks_find (M:=model prog w) X I m;have e:(Value.builtin "BaseException.__getattribute__" == Value.builtin "object.__getattribute__")=false:=by decide +kernel
 have o:=FB.bind (.ref x);unfold getAttr? getAttrBy? getAttrBy;refine aax (wpAny_mkText (aax (wpAny_attempt (wpAny_holding (aax (j.at (aax (u.at ?_))))))));simp only[e,Bool.and_false,Bool.false_eq_true,if_false];unfold getAttrByItsOwn hookBefore;show wpAny _ _ (typeLookup (.ref D) "__getattr__" >>= _) _ _ _;refine aax (L2.at ?_);refine aax (wpAny_attempt (wpAny_holding ?_));unfold callGetattribute boundAndCalled;rw[ac9 (by decide)];refine aax (wpAny_of_eq o ?_);refine wpAny_call (codeAny_call_builtin FB.plain F.entry_bexc_ga (Em (s:=⟨l,g,d,t+1,os⟩) X I n ?_));show wpAny _ _ (Builtin.«object.__getattribute__» ⟨[.ref x,.str name t],[]⟩) _ _ _;unfold Builtin.«object.__getattribute__»;refine aax (aay ?_);refine aax (aay ?_);refine aax (j.at (aax (p.at ?_)));show wpAny _ _ (Builtin.ObjectAttr.bindTo c a (.ref x) (.ref D)) _ _ _;unfold Builtin.ObjectAttr.bindTo;show wpAny _ _ (holding [a] (call c [a,.ref x,.ref D]) >>= λv=>ret v) _ _ _;refine aax (wpAny_holding (wpAny_call (codeAny_mono (h _) λr s' f=>?_)))
 match r,f with
 | .ok (.ret v),f=>
   refine aay ?_;exact wpAny_mono f (λv b q=>aay q) λ_ _ z=>z.elim
end
theorem V_:Slot "Exception" "__getattribute__" "BaseException.__getattribute__" :=F.attr_Exception.ga
theorem Df{K:Frag}{c:Option Obj}{a g:Value}(b:(clsIn K C).isSome=true)(f:findIn K (.ref C) name=some (some a))(e:specialIn K a "__get__" = some (some g))(d:takesIn K a=some true):findObj K C c name=some (.bind g a):=by
 obtain⟨cd,b⟩:=Option.isSome_iff_exists.mp b;unfold findObj;rw[b,ac8,f,ac8];simp[e,d]
theorem Q_{prog:Program}{K:Frag}{x:Addr}{Q:Option Value->Shared->Prop}(X:K.In s.heap)(I:InstAt s.heap x ox D odo)(b:findIn K (.ref D) "__getattribute__" = some (some (.builtin "BaseException.__getattribute__")))(e:findIn K (.ref D) "__getattr__" = some none)(j:mroIn K D (.type "BaseException")=some true)(g:(clsIn K D).isSome=true)(i:findIn K (.ref D) "__class__" = some (some (.builtin "object.__class__")))(c:specialIn K (.builtin "object.__class__") "__get__" = some (some (.builtin "getset_descriptor.__get__")))(a:takesIn K (.builtin "object.__class__")=some true)(d:mroIn K D (.type "object")=some true)(h:Q (some (.ref D)) {s with toks:=s.toks+1}):wpAny (model prog w) A (getAttr? (.ref x) "__class__") Q E s:=by
 have f:findObj K D odo "__class__" = some (.bind (.builtin "getset_descriptor.__get__") (.builtin "object.__class__")):=Df g i c a;exact Wa X I b e j f V_ λk=>class_get (s:={s with toks:=s.toks+1}) X I d (handed_on rfl h)
structure WL(K:Frag)(D:Addr):Prop where
 hga:findIn K (.ref D) "__getattribute__" = some (some (.builtin "BaseException.__getattribute__"))
 hk:findIn K (.ref D) "__getattr__" = some none
 hB:mroIn K D (.type "BaseException")=some true
 hc:(clsIn K D).isSome=true
 ha:findIn K (.ref D) "__class__" = some (some (.builtin "object.__class__"))
 hn:specialIn K (.builtin "object.__class__") "__get__" = some (some (.builtin "getset_descriptor.__get__"))
 htk:takesIn K (.builtin "object.__class__")=some true
 hm:mroIn K D (.type "object")=some true
theorem Vy{K:Frag}{x:Addr}(c:WL K D):KitX K (.ref x) (.ref D) (λh=>∃ox odo,InstAt h x ox D odo) where
 ty:=λ_ _ _ ⟨_,_,I⟩=>I.type
 it:=λ_ _ X _=>by
  have a:=c.hc;unfold clsIn at a;split at a
  .rename_i m l g b f
   intro u s t p k q;unfold isType loadHead;exact aax (wpAny_loadPart (k _ _ (X _ _ f)) (aay q))
  .cases a
 ne:=λh i r j n o X d=>by
  have a:=c.hc;refine Bool.eq_false_iff.mpr λq=>?_;have e:D=i:=Value.ref.inj (beq_iff_eq.mp q);subst e;unfold clsIn at a;split at a
  .rename_i m l g b f
   have z:=(X _ _ f).symm.trans d;cases z
  .cases a
 ca:=λX ⟨_,_,I⟩ k=>Q_ X I c.hga c.hk c.hB c.hc c.ha c.hn c.htk c.hm k
end PySem.W
namespace L2
open PySem PySem.Spec PyProof.Rows
def yd(h:Heap)(e:Addr)(cls:Value)(b:Option Addr)(lo:Addr->Prop):Option Value->Prop
 | none=>∃oe vs,h.get? e=some oe/\oe.cls=cls/\oe.dict=b/\oe.data=.fields vs/\vs[1]?=some .none
 | some f=>∃oe vs T a ts,h.get? e=some oe/\oe.cls=cls/\oe.dict=b/\oe.data=.fields vs/\vs[1]?=some (.ref T)/\lo T/\T≠e/\h.get? T=some a/\a.data=.fields ts/\ts[3]?=some f
theorem yd.there{h:Heap}{e:Addr}{cls:Value}{f:Option Value}(x:yd h e cls dx lo f):∃oe vs,h.get? e=some oe/\oe.cls=cls/\oe.dict=dx/\oe.data=.fields vs:=by
 cases f with
 | none=>obtain⟨oe,vs,a,b,c,d,_⟩:=x;exact⟨oe,vs,a,b,c,d⟩
 | some f=>obtain⟨oe,vs,_,_,_,a,b,c,d,_⟩:=x;exact⟨oe,vs,a,b,c,d⟩
section
variable{M:Model}{e:Addr}
structure rD(fr:List Addr)(e:Addr)(lo:Addr->Prop)(h h':Heap):Prop where
 keep:∀b o,h.get? b=some o->b∉fr->b≠e -> ¬lo b->h'.get? b=some o
 slot:∀b o,h.get? b=some o->b∈fr->b≠e -> ¬lo b -> ∃sl,h'.get? b=some {o with slots:=sl}
 there:∀b o,h.get? b=some o -> ∃o',h'.get? b=some o'
theorem rD.trans{fr:List Addr}{h j:Heap}(a:rD fr e lo h h1)(b:rD fr e lo h1 j):rD fr e lo h j where
 keep:=λc o q g f d=>b.keep c o (a.keep c o q g f d) g f d
 slot:=λc o q g f d=>by
  obtain⟨l,q1⟩:=a.slot c o q g f d;obtain⟨i,q2⟩:=b.slot c _ q1 g f d;exact⟨i,q2⟩
 there:=λc o q=>by
  obtain⟨k,q1⟩:=a.there c o q;exact b.there c k q1
theorem oN{h:Heap}{o:Obj}{vs:Array Value}(q:h.get? a=some o)(d:o.data=.fields vs)(i:Nat)(v:Value):
 (h.update a (Obj.mapFields (·.setIfInBounds i v))).get? a=some (Obj.mapFields (·.setIfInBounds i v) o)/\(Obj.mapFields (·.setIfInBounds i v) o).data=.fields (vs.setIfInBounds i v) /\
   (Obj.mapFields (·.setIfInBounds i v) o).cls=o.cls/\(Obj.mapFields (·.setIfInBounds i v) o).dict=o.dict:=by
 have b:=Obj.data_mapFields d (·.setIfInBounds i v);refine⟨Heap.get?_update_self _ q (Obj.isFreed_of_fields b),b,Obj.cls_mapFields _ _,?_⟩;obtain⟨c,g,f,e⟩:=o;simp only at d;subst d;rfl
theorem R_{vs:Array Value}{head:Value}{d:Bool}{cls:Value}{Q:zzu}(v:A.frames=some (env::outer))(z:s.heap.FunFrames base (env::outer))(K:env.frame=some L)(he:s.heap.get? e=some oe)(n:oe.data=.fields vs)(k:1<vs.size)(N:oe.cls=cls)(w:oe.dict=dx)(u:∀T,s.heap.get? T=none->lo T)(h:∀h',rD (frs (env::outer)) e lo s.heap h'->yd h' e cls dx lo (some (rawInt L))->Q () {s with heap:=h'}):
 wpAny M A (do let a ←frameOf env;let pl ←entryPlaceOf L d;let b ←EntryCells.newEntry head a .none (rawInt L) .none pl;setField (.ref e) 1 b) Q E s:=by
 have r:e∉frs (env::outer):=λJ=>by
  obtain⟨_,o,q,H⟩:=z.mem J;rw[he] at q;cases q;exact H vs n
 refine aax (wpAny_frameOf_fun v z K λg c=>?_);refine aax (wpAny_entryPlaceOf λpl l=>?_);unfold EntryCells.newEntry newFields;refine aax (wpAny_newObj_type ?_ (l.sizeOk5 _ _ _ _ _));generalize m:({cls:= .type "traceback",dict:=none,data:= .fields ([head,.ref L,.none,rawInt L,.none]++(if pl.isEmpty then List.replicate 6 Value.none else pl)).toArray}:Obj)=x;have q1:g.get? e=some oe:=(c.2.1 e r).trans he;have q2:=aan (h:=g) x q1;have j:g.objs.size≠e:=Nat.ne_of_gt (aap q1);have f:g.objs.size=s.heap.objs.size:=c.1;have i:s.heap.get? g.objs.size=none:=Heap.get?_none_of_le (by rw[f];exact aaw _);refine wpAny_setField q2 n k (h _ ⟨λb o q y t I=>?_,λb o q y t I=>?_,λb o q=>?_⟩ ?_)
 .rw[Heap.get?_update_other _ _ (Ne.symm t)]
  exact aan _ ((c.2.1 b y).trans q)
 .obtain⟨p,q3⟩:=c.2.2 b o q
  refine⟨p,?_⟩;rw[Heap.get?_update_other _ _ (Ne.symm t)];exact aan _ q3
 .obtain⟨p,q3⟩:=c.2.2 b o q
  by_cases B:b=e
  .subst B
   exact⟨_,(oN q2 n 1 _).1⟩
  .refine⟨{o with slots:=p},?_⟩
   rw[Heap.get?_update_other _ _ (Ne.symm B)];exact aan _ q3
 .obtain⟨G,F,D,C⟩:=oN q2 n 1 (Value.ref g.objs.size)
  refine⟨_,_,g.objs.size,x,_,G,D.trans N,C.trans w,F,by simp[k],u _ i,j,?_,by rw[←m],?_⟩
  .rw[Heap.get?_update_other _ _ (Ne.symm j)]
   exact aao _ (by rw[←m];rfl)
  .first |(simp;done)|(rcases l with rfl|⟨_,_,_,_,_,_,_,rfl⟩<;>simp)
theorem Z0{cls:Value}{Q:zzu}(r:fl=none\/fl=some .none)(i:A.frames=some (env::outer))(C:s.heap.FunFrames base (env::outer))(t:env.frame=some L)(x:yd s.heap e cls dx lo fl)(g:∀T,s.heap.get? T=none->lo T)(h:∀h',rD (frs (env::outer)) e lo s.heap h'->yd h' e cls dx lo (some (rawInt L))->Q () {s with heap:=h'}):wpAny M A (noteFrame (.ref e) env) Q E s:=by
 unfold noteFrame;simp only[t];rcases r with rfl|rfl
 .obtain⟨J,H,j,u,f,k,l⟩:=x
  refine aax (wpAny_field j k l ?_);rw[ac9 (by decide)];exact R_ i C t j k (Array.getElem?_eq_some_iff.mp l).1 u f g h
 .obtain⟨J,H,T,V,y,j,u,f,k,l,D,N,m,d,F⟩:=x
  refine aax (wpAny_field j k l ?_);rw[ac_ (show (Value.ref T != Value.none)=true from by simp)];refine aax (wpAny_field m d F ?_);rw[ac9 (show ¬((Value.none==rawInt L)=true) from by simp[rawInt])];have p:3<y.size:=(Array.getElem?_eq_some_iff.mp F).1;refine aax (wpAny_setField m d p ?_);have a:∀b,b≠T->(s.heap.update T (Obj.mapFields (·.setIfInBounds 3 Value.none))).get? b=s.heap.get? b:=λb c=>Heap.get?_update_other _ _ (Ne.symm c);obtain⟨I,U,S,R⟩:=oN m d 3 Value.none
  have P:rD (frs (env::outer)) e lo s.heap (s.heap.update T (Obj.mapFields (·.setIfInBounds 3 Value.none))):=by
   have B:∀b,¬lo b->b≠T:=λb c z=>c (by rw[z];exact D);refine⟨λb o q _ _ n=>(a b (B b n)).trans q,λb o q _ _ n=>⟨o.slots,(a b (B b n)).trans q⟩,λb o q=>?_⟩
   by_cases c:b=T
   .subst c;exact⟨_,I⟩
   .exact⟨o,(a b c).trans q⟩
  have v:(s.heap.update T (Obj.mapFields (·.setIfInBounds 3 Value.none))).FunFrames base (env::outer):=C.of_keeps λb o q K=>by
   by_cases c:b=T
   .subst c;rw[m] at q;cases q;exact ac' d (K y)
   .exact⟨o,(a b c).trans q,Z⟩
  refine R_ (s:={s with heap:=s.heap.update T (Obj.mapFields (·.setIfInBounds 3 Value.none))}) i v t ((a e (Ne.symm N)).trans j) k (Array.getElem?_eq_some_iff.mp l).1 u f (λw z=>?_) λh' O G=>h h' (P.trans O) G
  by_cases c:w=T
  .rw[c];exact D
  .exact g w ((a w c).symm.trans z)
theorem RW{cls:Value}{Q:zzu}{fr:List Addr}{f:Value}(x:yd s.heap e cls dx lo (some f))(h:∀h',rD fr e lo s.heap h'->yd h' e cls dx lo (some .none)->Q () {s with heap:=h'}):wpAny M A (setFlight (.ref e) none) Q E s:=by
 obtain⟨B,v,T,H,y,n,C,j,p,t,r,m,u,g,D⟩:=x;have d:3<y.size:=(Array.getElem?_eq_some_iff.mp D).1;unfold setFlight;refine aax (wpAny_field n p t ?_);rw[ac_ (show (Value.ref T != Value.none)=true from by simp)];have a:∀b,b≠T->(s.heap.update T (Obj.mapFields (·.setIfInBounds 3 Value.none))).get? b=s.heap.get? b:=λb c=>Heap.get?_update_other _ _ (Ne.symm c);obtain⟨k,w,G,F⟩:=oN u g 3 Value.none;have l:∀b,¬lo b->b≠T:=λb c z=>c (by rw[z];exact r);refine wpAny_setField u g d (h _ ⟨λb o q _ _ i=>(a b (l b i)).trans q,λb o q _ _ i=>⟨o.slots,(a b (l b i)).trans q⟩,λb o q=>?_⟩ ?_)
 .by_cases c:b=T
  .subst c;exact⟨_,k⟩
  .exact⟨o,(a b c).trans q⟩
 .exact⟨B,v,T,_,_,(a e (Ne.symm m)).trans n,C,j,p,t,r,m,k,w,by simp[d]⟩
end
section
variable{e:Addr}
theorem dM.there{h:Heap}{o:HO}(x:dM P w H h a o):∃ob,h.get? a=some ob:=by
 induction o with
 | lst c=>obtain⟨_,_,_,_,q⟩:=x;exact⟨_,q⟩
 | tup c=>obtain⟨_,_,_,ob,q,_⟩:=x;exact⟨ob,q⟩
 | dK b=>obtain⟨_,_,_,_,ob,_,_,q,_⟩:=x;exact⟨ob,q⟩
 | dT b=>obtain⟨_,_,_,_,ob,_,_,q,_⟩:=x;exact⟨ob,q⟩
 | set S n=>obtain⟨ob,_,_,_,q,_⟩:=x;exact⟨ob,q⟩
 | ins C l d=>obtain⟨_,_,_,q,_⟩:=x;exact⟨_,q⟩
 | own y=>exact x
 | xd d=>obtain⟨_,⟨ob,_,_,q,_⟩,_⟩:=x;exact⟨ob,q⟩
 | rng i k=>obtain⟨_,_,_,q⟩:=x;exact⟨_,q⟩
 | JD ob u j=>exact⟨ob,x.1⟩
 | Z4 g=>exact⟨_,x⟩
 | met f y=>exact⟨_,x⟩
 | ext e=>exact x.2.1
def EY(X:Cx)(a:zzw)(H:Hp)(b:Addr):Prop:=
 H b=none/\b≠X.env.locals/\b∉X.fs/\X.s₀.heap.get? b=none/\(∀x c,X.env.cells.lookup x=some c->c≠b) /\ ∀p∈X.pn++a,p.1≠b
theorem Inv.xfp(I:Inv X pins σ H s)(d:X.ex=[])(a:s.heap.get? b=none):EY X pins H b:=by
 refine⟨?_,λz=>?_,λz=>?_,?_,λx c q z=>?_,λp e z=>?_⟩
 .cases q:H b with
  | none=>rfl
  | some o=>
    obtain⟨f,r⟩:=(I.hok b o q).there;rw[a] at r;cases r
 .obtain⟨m,⟨o,_,_,r,_⟩,_⟩:=I.loc
  rw[←z,a] at r;cases r
 .obtain⟨_,o,r,_⟩:=I.pW.mem z
  rw[a] at r;cases r
 .cases q:X.s₀.heap.get? b with
  | none=>rfl
  | some o=>
    obtain⟨g,r⟩:=I.base.there b o q (by rw[d];simp);rw[a] at r;cases r
 .obtain⟨v,o,r,_⟩:=I.cell x c q
  rw[z,a] at r;cases r
 .obtain⟨r,_⟩:=I.pin p e
  rw[z,a] at r;cases r
theorem Inv.noted(I:Inv X pins σ H s)(n:rD (frs X.stack) e lo s.heap h')(A:∀b,(b=e\/lo b)->EY X pins H b\/s.heap.get? b=none):Inv X pins σ H {s with heap:=h'}:=by
 have off:∀b o,s.heap.get? b=some o->(¬EY X pins H b)->b≠e /\ ¬lo b:=λb o q D=>
  ⟨λz=>(A b (.inl z)).elim D λr=>(by rw[r] at q;cases q),λz=>(A b (.inr z)).elim D λr=>(by rw[r] at q;cases q)⟩
 have any:∀b o,s.heap.get? b=some o->(¬EY X pins H b) -> ∃C,h'.get? b=some {o with slots:=C}:=λb o q D=>by
  obtain⟨h,g⟩:=off b o q D
  by_cases f:b∈frs X.stack
  .exact n.slot b o q f h g
  .exact⟨o.slots,n.keep b o q f h g⟩
 have s0:∀b o,X.s₀.heap.get? b=some o -> ¬EY X pins H b:=λb o q x=>by rw[x.2.2.2.1] at q;cases q
 have F:∀b o,X.s₀.heap.get? b=some o->b≠X.env.locals:=λb o q=>abX (ab0 (aap q) I.ok.above);have j:∀b,b≠X.env.locals->b∉X.fs->b∉frs X.stack:=λb h g z=>(List.mem_cons.mp (I.Ac b z)).elim h g;have W5:∀b o,H b=some o -> ¬EY X pins H b:=λb o q x=>by rw[x.1] at q;cases q
 have B:∀b o,H b=some o->b∉frs X.stack:=λb o q z=>by rw[I.Ft b z] at q;cases q
 have cl:∀x c,X.env.cells.lookup x=some c -> ∀v,s.heap.IsCell c v->h'.IsCell c v:=λx c q v ⟨o,G,P⟩=>by
  obtain⟨C,r⟩:=any c o G λz=>z.2.2.2.2.1 x c q rfl;exact⟨_,r,P⟩
 refine⟨I.ok,I.os,I.bare,⟨λb o q nn f y=>?_,λb o q nn f y=>?_,I.base.free,λb o q y=>?_,I.base.tups,I.base.vN,I.base.wQ⟩,?_,λx c q=>?_,I.free,I.jr,λp J=>?_,λa o q=>?_,I.len⟩
 .have q1:=I.base.keep b o q nn f y
  obtain⟨h,g⟩:=off b o q1 (s0 b o q);exact n.keep b o q1 (j b (F b o q) f) h g
 .obtain⟨C,q1⟩:=I.base.slot b o q nn f y
  obtain⟨E,q2⟩:=any b _ q1 (s0 b o q);exact⟨E,q2⟩
 .obtain⟨N,q1⟩:=I.base.there b o q y
  exact n.there b N q1
 .obtain⟨m,⟨M,Q,R,G,r⟩,O⟩:=I.loc
  obtain⟨C,q1⟩:=any _ M G λz=>z.2.1 rfl;refine⟨m,⟨_,Q,R,q1,r⟩,λi x v U T S=>?_⟩;obtain⟨u,L,l⟩:=O i x v U T S;refine⟨u,L,?_⟩;rcases l with l|⟨k,c,K,z⟩
  .exact .inl l
  .exact .inr ⟨k,c,K,cl x c K _ z⟩
 .obtain⟨v,z⟩:=I.cell x c q
  exact⟨v,cl x c q v z⟩
 .obtain⟨q,nn,h,g,d⟩:=I.pin p J
  obtain⟨w,t⟩:=off p.1 p.2 q λz=>z.2.2.2.2.2 p J rfl;exact⟨n.keep p.1 p.2 q (j p.1 h g) w t,nn,h,g,d⟩
 .refine(I.hok a o q).stay (λb u f r=>?_) (λ_ z=>z) λ_ _ z=>z
  rcases f with rfl|f
  .obtain⟨w,t⟩:=off b u r (W5 b o q)
   exact n.keep b u r (B b o q) w t
  .obtain⟨w,t⟩:=off b u r (W5 b _ f)
   exact n.keep b u r (B b _ f) w t
def uG(P:Program)(w:World):RQ:=λouter H s E ev s'=>∃(e:Addr) (cls:Value) (dx:Option Addr) (H':Hp),ev=.ref e/\s'.os=s.os/\AllBare s'.gens/\Un (frs outer) [] H H' s.heap s'.heap/\sX P w H' s'.heap /\
 s.heap.get? e=none/\H' e=none/\yd s'.heap e cls dx (λT=>s.heap.get? T=none/\H' T=none) (some .none)/\E cls dx H'
def Rz(X:Cx)(E:St->XK):Prop:=∀(pins:zzw)(σ:St)(H:Hp)(s:Shared)(e:Addr)(cls:Value)(dx:Option Addr)(fl:Option Value),(fl=none\/fl=some .none)->Inv X pins σ H s->EY X pins H e ->
 yd s.heap e cls dx (EY X pins H) fl->E σ cls dx H->X.xe (.ref e) s
theorem yd.imp{h:Heap}{e:Addr}{cls:Value}{a:Addr->Prop}{f:Option Value}(x:yd h e cls dx lo f)(k:∀T,(∃o,h.get? T=some o)->lo T->a T):yd h e cls dx a f:=by
 cases f with
 | none=>exact x
 | some f=>
   obtain⟨j,g,T,c,i,m,p,b,n,s,q,l,d,r⟩:=x;exact⟨j,g,T,c,i,m,p,b,n,s,k T ⟨c,d⟩ q,l,d,r⟩
theorem Oe{E:St->XK}(g:X.ex=[])(R:Rz X E){ev:Value}(I:Inv X pins σ H s)(c:uG X.prog X.w X.stack H s (E σ) ev s'):X.xe ev s':=by
 obtain⟨e,cls,n,a,rfl,h,i,u,d,ne,j,x,q⟩:=c;have w:Inv X pins σ a s':=I.call' (ch:=[]) h u d i (λb k=>by cases k)
 have f:∀T,s.heap.get? T=none->a T=none->EY X pins a T:=λT m l=>by
  obtain⟨_,v,t,r,p,o⟩:=I.xfp g m;exact⟨l,v,t,r,p,o⟩
 exact R pins σ a s' e cls n _ (.inr rfl) w (f e ne j) (x.imp λT _ z=>f T z.1 z.2) q
theorem IW{mg:zzv}{a:Scope}{E:XK}:
 Rz (pX (uG P w) P w K mg base N qual a f cd A outer s H E) (λ_=>E):=by
 intro c k H1 d e cls r u i I j x q;show wpAny (model P w) _ (leaving _ (.ref e)) _ _ d;unfold leaving;have lo1:∀b,(b=e\/(EY (pX (uG P w) P w K mg base N qual a f cd A outer s H E) c H1 b\/d.heap.get? b=none))->EY (pX (uG P w) P w K mg base N qual a f cd A outer s H E) c H1 b\/d.heap.get? b=none:=λb z=>z.elim (λz=> .inl (by rw[z];exact j)) λz=>z;have h:(pX (uG P w) P w K mg base N qual a f cd A outer s H E).A.frames=some ((pX (uG P w) P w K mg base N qual a f cd A outer s H E).env::outer):=I.ok.frames;refine aax (Z0 (base:=base) (lo:=λT=>EY (pX (uG P w) P w K mg base N qual a f cd A outer s H E) c H1 T\/d.heap.get? T=none) i h I.stack rfl (x.imp λT _ z=> .inl z) (λT z=> .inr z) λt o m=>?_);refine RW (fr:=frs ((pX (uG P w) P w K mg base N qual a f cd A outer s H E).env::outer)) m λp n l=>?_;have g:Inv (pX (uG P w) P w K mg base N qual a f cd A outer s H E) c k H1 {d with heap:=p}:=I.noted (o.trans n) lo1;refine⟨e,cls,r,H1,Z,g.os,g.bare,g.base,g.hok,j.2.2.2.1,j.1,l.imp λT _ z=>?_,q⟩;rcases z with z|z
 .exact⟨z.2.2.2.1,z.1⟩
 .have y:=I.xfp rfl z
  exact⟨y.2.2.2.1,y.1⟩
end
def WX(P:Program)(w:World)(K:zzy)(mg:zzv)(base:Heap)(k:Nat)(x:Str)(ps:List Str)(sp:Sp):Prop:=
 ∃f fd,bR P w K mg base (uG P w) k f fd ps sp/\mg x=some (.ref f)/\W.keepIn K (.ref f)=true/\Binds K fd ps []
def aa6(sp:Sp)(E:St->XK)(t:TA):TE:=λσ H Q=>t σ H λvs H1=>sp vs H1 Q (E σ)
section
variable{t:TA}{p:Pos}{E:St->XK}
theorem abu(F:WX X.prog X.w X.K X.mg X.base k x ps sp)(n:X.ex=[])(R:Rz X E)(o:fJ k X.A)(y:Gl X x)(B:PA X (e::es) t)(z:(x==("__debug__" :Str))=false:=by decide)(he:starEach (e::es) X.env=(false,eval e X.env)::starEach es X.env:=by rfl)(hpl:(backTo pos (starEach es X.env)).any (·.1)=false:=by rfl):
 PE X (.Call (.Name x p) (e::es) [] pos) (aa6 sp E t):=by
 obtain⟨f,D,G,v,w,A⟩:=F;intro a s j H Q I h;refine wpAny_Call_Name_kw (pC I y v ?_ z);refine W.callWith_K (h₀:=X.base) I.ok.mod.VB w (dG (B pos a s j H _ I h) λi l ⟨m,H1,g,r,q⟩=>⟨g.oH,?_⟩) he hpl;have c:i.length=ps.length:=by rw[←r.length];exact G.len _ _ _ _ q
 have d:=A l i g.oH (by rw[List.append_nil];exact c);rw[List.append_nil] at d;refine wpAny_call (codeAny_mono (G.run X.A X.stack l H1 ⟨i,[]⟩ i m Q (E j) o g.env0 d r q) λres C b=>?_)
 match res,b with
 | .error ev,b=>exact Oe n R g b
 | .ok (.ret u),b=>exact g.after b
end
section
variable{mg:zzv}
theorem fZ.okX(F:fZ K x qual st f fd)(S:aY N ps (aP st))(len:∀vs H Q E,sp vs H Q E->vs.length=ps.length)(a:∀(cdv:Value)(A:Around)(outer:List Env)(s:Shared)(H:Hp)(vs:List V)(Q:VK)(E:XK),fJ k (A.deeper (envOfC qual (aP st) s.heap.objs.size f cdv))->sp vs H Q E ->
   Rz (pX (uG P w) P w K mg base N qual (aP st) f cdv A outer s H E) (λ_=>E) ->
   ∃t,Kf (pX (uG P w) P w K mg base N qual (aP st) f cdv A outer s H E) (gH st) t/\t {nx:=λ_ H'=>Q .non H',rt:=Q} (start N vs) H):bR P w K mg base (uG P w) (k+1) f fd ps sp:=by
 obtain⟨i,h,kV,doc,pm,an,cdv,j,d,rfl,e,c⟩:=F.ex;exact V8 e c S len λA outer s H vs Q E g b=>a cdv A outer s H vs Q E g b IW
end
theorem Zo{h:Heap}(X:K.In h)(q:W.excIn K C bmB newId=true):
 ∃bm N nm f bs hdct sn sub ab col dd k0 k1 k2 k3 k5 mN,h.get? C=some (excClassObj nm f C N bs bm hdct sn sub ab col dd k0 k1 k2 k3 k5 newId)/\h.Ns N mN/\mN "__init__" = none/\OwnTail h bmB bm:=by
 unfold W.excIn at q;split at q
 .rename_i F r s0 g
  split at q
  .rename_i G e w v u t nn s em b
   simp only[acg,beq_iff_eq,Bool.not_eq_true'] at q;obtain⟨⟨⟨⟨⟨p,o⟩,d⟩,n⟩,a⟩,c⟩:=q;subst p o;obtain⟨E,D,B,i,A,z,y,f8,x,k,j⟩:=r;dsimp only at em d a c;subst em d
   have m:s0 = #[w,v,u,t,some (.builtin nn),s]:=by
    obtain⟨l⟩:=s0;simp only at b;rw[b]
   subst m;exact⟨e,i,_,_,_,_,_,_,_,_,_,_,_,_,_,_,_,X _ _ g,.of_isNs (W.isNs_of_in X a),W.nsMap_none_of_in X a c,W.tail_of_in X n⟩
  .cases q
 .cases q
def aaY(cls:Value)(E:St->XK)(a:TA):TS:=λ_ σ H=>a σ H λvs H1=>vs.length<=sizeLine/\E σ cls none H1
section
variable{E:St->XK}{B initId:String}{e0:Expr}{rest:List Expr}{ta:TA}{np:Pos}
theorem lN(FB:ExcBaseFacts B newId initId bmB)(q:W.excIn X.K C bmB newId=true)(m:X.mg x=some (.ref C))(o:Gl X x)(u:X.calm=true)(k:X.ex=[])(R:Rz X E)(v:PA X (e0::rest) ta)(he:starEach (e0::rest) X.env=(false,eval e0 X.env)::starEach rest X.env:=by rfl)(b:(backTo cpos (starEach rest X.env)).any (·.1)=false:=by rfl)(p:(x==("__debug__" :Str))=false:=by decide):
 PS X (.Raise (some (.Call (.Name x np) (e0::rest) [] cpos)) none pos) (aaY (.ref C) E ta):=by
 intro a s d H D I h;obtain⟨bm,N,nm,j,bs,hdct,sn,sub,ab,col,dd,k0,k1,k2,k3,k5,mN,z,w,f,T⟩:=Zo I.ok.mod.VB q
 refine wpAny_Raise_call_subT (k5:=k5) (k3:=k3) (k2:=k2) (k1:=k1) (k0:=k0) (dd:=dd) (col:=col) (ab:=ab) (sub:=sub) (sn:=sn) (hdct:=hdct) (bs:=bs) (q:=j) (nm:=nm)
  (C:=C) (N:=N) (bm:=bm) (mN:=mN) FB (T.hasType FB.hasBase) (I.ok.hd u) (by rw[he];show (false||(backTo cpos (starEach rest X.env)).any (·.1))=false;rw[b];rfl) f (pC I o m ⟨Z,?_⟩ p)
 have i:=v cpos a s d H _ I h;rw[he] at i ⊢;refine Calls.evalArgs_plain (dG i λJ g ⟨G,H1,c,r,n,y⟩=>⟨Z,by rw[←r.length];exact n,c.bk _ _ z,w.keeps c.bk,T.keeps c.bk,λA e mk=>?_⟩);obtain⟨t,l,_,_⟩:=mk.there;have F:Inv X a d H1 {g with heap:=A}:=c.kept (t':=g.toks) mk.keeps;exact R a d H1 _ e (.ref C) none none (.inl rfl) F (c.xfp k mk.new) ⟨_,_,l,Z,Z,Z,Z⟩ y
end
def XO(C:Addr)(a:Option Addr)(e:Addr):HO:= .ext λh=>∃oe vs,h.get? e=some oe/\oe.cls=.ref C/\oe.dict=a/\oe.data=.fields vs
def G8(X:Cx)(e:Addr):Cx:={X with A:=X.A.mark (some (.ref e)),calm:=false,xe:=λ_ _=>False}
def Cd(X:Cx)(a:zzw)(xe:zzx):Cx:={X with pn:=X.pn++a,xe:=xe}
theorem Inv.adB(I:Inv X pins σ H s)(xe:zzx):Inv (Cd X pins xe) [] σ H s:=
 ⟨⟨I.ok.mod,I.ok.kind,I.ok.glob,I.ok.blt,I.ok.above,I.ok.inj,I.ok.has,I.ok.cab,I.ok.hd,I.ok.frames,I.ok.stk,I.ok.exf,I.ok.bs,I.ok.Mj,I.ok.Gs,I.ok.JG,I.ok.pW,I.ok.RN⟩,I.os,I.bare,I.base,I.loc,I.cell,I.free,I.jr,
   λp a=>I.pin p (by rw[List.append_nil] at a;exact a),I.hok,I.len⟩
theorem Inv.DR{xe:zzx}(I:Inv (Cd X pins xe) pO σ H s):Inv X pins σ H s:=
 ⟨⟨I.ok.mod,I.ok.kind,I.ok.glob,I.ok.blt,I.ok.above,I.ok.inj,I.ok.has,I.ok.cab,I.ok.hd,I.ok.frames,I.ok.stk,I.ok.exf,I.ok.bs,I.ok.Mj,I.ok.Gs,I.ok.JG,I.ok.pW,I.ok.RN⟩,I.os,I.bare,I.base,I.loc,I.cell,I.free,I.jr,
   λp a=>I.pin p (List.mem_append_left _ a),I.hok,I.len⟩
theorem Inv.SX(I:Inv X pins σ H s)(e:Addr):Inv (G8 X e) pins σ H s:=
 ⟨⟨I.ok.mod,I.ok.kind,I.ok.glob,I.ok.blt,I.ok.above,I.ok.inj,I.ok.has,I.ok.cab,λz=>(by cases z),I.ok.frames,I.ok.stk,I.ok.exf,I.ok.bs,I.ok.Mj,I.ok.Gs,I.ok.JG,I.ok.pW,I.ok.RN⟩,I.os,I.bare,I.base,I.loc,I.cell,I.free,I.jr,
   I.pin,I.hok,I.len⟩
theorem Inv.Gr{e:Addr}(I:Inv (G8 X e) pins σ H s)(a:X.calm=true->X.A.handled=none):Inv X pins σ H s:=
 ⟨⟨I.ok.mod,I.ok.kind,I.ok.glob,I.ok.blt,I.ok.above,I.ok.inj,I.ok.has,I.ok.cab,a,I.ok.frames,I.ok.stk,I.ok.exf,I.ok.bs,I.ok.Mj,I.ok.Gs,I.ok.JG,I.ok.pW,I.ok.RN⟩,I.os,I.bare,I.base,I.loc,I.cell,I.free,I.jr,
   I.pin,I.hok,I.len⟩
theorem Inv.track{e:Addr}(I:Inv X pins σ H s)(R:X.ex=[])(F:EY X pins H e)(x:yd s.heap e (.ref C) dx lo fl):Inv X pins σ (upd H e (XO C dx e)) s:=by
 obtain⟨M,L,U,K,J,G⟩:=F;obtain⟨g,l,q,E,f,D⟩:=x.there;have ne:∀b o,H b=some o->b≠e:=λb o r=>aA r M;refine⟨I.ok,I.os,I.bare,⟨I.base.keep,I.base.slot,λb o r n B=>?_,I.base.there,λb j r=>?_,λb o u r=>?_,λb t r=>?_⟩,I.loc,I.cell,?_,λy c r=>?_,λp h=>?_,λa o r=>?_,I.len⟩
 .rw[aF (λz=>by rw[z,K] at r;cases r)]
  exact I.base.free b o r n B
 .have d:=I.base.tups b j r
  rw[aF (ne b _ d)];exact d
 .have d:=I.base.vN b o u r
  rw[aF (ne b _ d)];exact d
 .obtain⟨m,d⟩:=I.base.wQ b t r
  exact⟨m,by rw[aF (ne b _ d)];exact d⟩
 .rw[aF (Ne.symm L)];exact I.free
 .rw[aF (J y c r)];exact I.jr y c r
 .obtain⟨P,O,N⟩:=I.pin p h
  exact⟨P,by rw[aF (G p h)];exact O,N⟩
 .by_cases i:a=e
  .subst i
   rw[ak] at r;cases r;exact⟨⟨g,l,q,E,f,D⟩,⟨g,q⟩,λT S ⟨A,v1,w,v⟩ k=>⟨A,v1,k _ w,v⟩⟩
  .rw[aF i] at r
   refine(I.hok a o r).stay (λ_ _ _ z=>z) (λb z=>by rw[aF (ne b _ z)];exact z) λb Q z=>by rw[aF (ne b _ z)];exact z
section
variable{M:Model}{Er:zzx}{e:Addr}
theorem Jq{b:Bool}{Q:Bool->Shared->Prop}(X:K.In s.heap)(he:s.heap.get? e=some oe)(n:oe.cls=.ref C)(h:(W.clsIn K D).isSome=true)(c:W.typeIn K (.ref D)=some (.type "type"))(o:W.subIn K (.ref D) (.type "BaseException")=some true)(hs:W.subIn K (.ref C) (.ref D)=some b)(i:Q b s):wpAny M A (excMatches (.ref e) (.ref D)) Q Er s:=by
 obtain⟨a,g,d,t,os⟩:=s;have w:W.Looks M a (typeOf (.ref D)) (.type "type"):=W.looks_typeIn X c;have L2:W.Looks M a (isSubtype (.ref D) (.type "BaseException")) true:=W.looks_subIn X o;have v:W.Looks M a (isSubtype (.ref C) (.ref D)) b:=W.looks_subIn X hs
 have u:W.Looks M a (isType (.ref D)) true:=by
  unfold W.clsIn at h;split at h
  .rename_i E B p j m
   intro z r y l k q;unfold isType loadHead;exact aax (wpAny_loadPart (k _ _ (X _ _ m)) (aay q))
  .cases h
 have f:=tc_notTuple;unfold excMatches isExcClass isInstance;refine aax (aax (w.at ?_));refine wpAny_of_eq f ?_;rw[ac9 (by decide)];refine aax (aay ?_);simp only[List.forIn_cons,List.forIn_nil];refine aax (aax (aax (aax (u.at ?_))));rw[ac_ rfl];refine L2.at ?_;simp only[Bool.not_true,Bool.false_eq_true,if_false];refine aay (aay ?_)
 have x:W.Looks M a (typeOf (.ref e)) (.ref C):=by
  intro z r y l k q;unfold typeOf;refine aax (wpAny_loadPart (k _ _ he) ?_);rw[n];exact aay q
 refine aax (x.at ?_);refine aax (aax (aax (v.at ?_)));cases b with
 | true=>exact aay (aay (aay i))
 | false=>exact aay (aay (aay i))
end
theorem Inv.gone{n:Str}{m:zzv}{v:Option Value}{t:Nat}(I:Inv X pins σ H s)(O:X.N.Nodup)(hi:X.N[i]?=some n)(M:∀(j:Nat)(x:Str)(u:V),X.N[j]?=some x->σ[j]?=some (some u)->Vis X.env.scope x -> ∃d,RelV u d/\Look X.env s.heap m x d)(L:h'.Ns X.env.locals (λx=>if x=n then v else m x))(e:Heap.SameBut X.env.locals s.heap h'):Inv X pins (σ.set i none) H {s with heap:=h',toks:=t}:=by
 have f:∀b o,X.s₀.heap.get? b=some o->b≠X.env.locals:=λb o q=>abX (ab0 (aap q) I.ok.above);have cl:∀x c,X.env.cells.lookup x=some c -> ∀d,s.heap.IsCell c d->h'.IsCell c d:=λx c q d ⟨o,K,N⟩=>⟨o,(e.2 c (I.cne x c q)).trans K,N⟩;have W5:∀b o,H b=some o->b≠X.env.locals:=λb o q=>aA q I.free;refine⟨I.ok,I.os,I.bare,⟨λb o q nn g w=>(e.2 b (f b o q)).trans (I.base.keep b o q nn g w),λb o q nn g w=>?_,I.base.free,λb o q w=>?_,I.base.tups,I.base.vN,I.base.wQ⟩,⟨_,L,λj x u E h P=>?_⟩,λx c q=>?_,I.free,I.jr,λp J=>?_,λa o q=>?_,?_⟩
 .obtain⟨F,r⟩:=I.base.slot b o q nn g w
  exact⟨F,(e.2 b (f b o q)).trans r⟩
 .obtain⟨G,r⟩:=I.base.there b o q w
  exact⟨G,(e.2 b (f b o q)).trans r⟩
 .have y:j≠i:=by
   rintro rfl
   by_cases B:j<σ.length
   .rw[List.getElem?_set_self B] at h
    cases h
   .rw[List.getElem?_eq_none (by rw[acW];lia)] at h
    cases h
  rw[List.getElem?_set_ne (Ne.symm y)] at h;obtain⟨d,r,l⟩:=M j x u E h P;refine⟨d,r,?_⟩;have A:x≠n:=λz=>y (Bu O E (by rw[z];exact hi));rcases l with ⟨k,q⟩|⟨k,c,D,z⟩
  .exact .inl ⟨k,by show (if x=n then v else m x)=some d;rw[ac9 A];exact q⟩
  .exact .inr ⟨k,c,D,cl x c D _ z⟩
 .obtain⟨d,z⟩:=I.cell x c q
  exact⟨d,cl x c q d z⟩
 .obtain⟨q,nn,C,r⟩:=I.pin p J
  exact⟨(e.2 p.1 C).trans q,nn,C,r⟩
 .refine(I.hok a o q).stay (λb u g r=>?_) (λ_ z=>z) λ_ _ z=>z
  rcases g with rfl|g
  .exact(e.2 b (W5 b o q)).trans r
  .exact(e.2 b (W5 b _ g)).trans r
 .show (σ.set i none).length=X.N.length
  rw[acW];exact I.len
theorem sG{M:Model}{n:Str}{Q:zzu}(I:Inv X pins σ H s)(f:X.N.Nodup)(hi:X.N[i]?=some n)(e:X.env.kindOf n=some .local)(h:∀s',Inv X pins (σ.set i none) H s'->Q () s'):wpAny M A (do bindName X.env n .none;unbindBehindTheSuite X.env n pos) Q E s:=by
 obtain⟨m,c,d⟩:=I.loc;exact wpAny_nameGoes_keeps e c (by rw[I.ok.kind];rfl) λg v a b=>h _ (I.gone f hi d a b)
def aeS(D:Ends)(i:Nat):Ends:={nx:=λσ H=>D.nx (σ.set i none) H,rt:=D.rt,bk:=λσ H=>D.bk (σ.set i none) H,ct:=λσ H=>D.ct (σ.set i none) H}
def agN(K:zzy)(i:Nat)(d:Addr)(c:(St->XK)->TS)(b:TS):TS:=λD σ H=>
 c (λa cls dx H1=>∃C,cls=.ref C/\W.subIn K (.ref C) (.ref d)=some true /\ ∀e,H1 e=none->b (aeS D i) (a.set i (some (.ref e))) (upd H1 e (XO C dx e))) D σ H
structure XHd(K:zzy)(D:Addr):Prop where
 cl:(W.clsIn K D).isSome=true
 ty:W.typeIn K (.ref D)=some (.type "type")
 bs:W.subIn K (.ref D) (.type "BaseException")=some true
section
variable{n:Str}{tb:(St->XK)->TS}{cp:Pos}
theorem abm(hc:X.calm=true)(hx:X.ex=[])(g:X.stack=X.env::X.outer)(R:X.env.frame=some X.env.locals)(L:X.N.Nodup)(hi:X.N[i]?=some n)(w:X.env.kindOf n=some .local)(hg:Gl X cn)(hm:X.mg cn=some (.ref Dc))(V:XHd X.K Dc)(hb:∀(pn:zzw)(xe:zzx)(E:St->XK),PassesOwn (model X.prog X.w) X.A X.env xe->Rz {X with pn:=pn,xe:=xe} E->Kf {X with pn:=pn,xe:=xe} body (tb E))(hh:∀e,Kf (G8 X e) (b0::suite) th)(hd:(cn==("__debug__" :Str))=false:=by decide):
 PS X (.Try body [.ExceptHandler (some (.Name cn cp)) (some n) (b0::suite) hpos] [] [] pos) (agN X.K i Dc tb th):=by
 intro a s σ H D I h;refine wpAny_Try_except ?_
 refine wpAny_mono (hb (X.pn++a) (λe B=>wpAny (model X.prog X.w) X.A (noteFrame e X.env) (λ_ A=>wpAny (model X.prog X.w) X.A (setFlight e none) (λ_ y=>wpAny (model X.prog X.w) X.A (handleBy e X.env [.ExceptHandler (some (.Name cn cp)) (some n) (b0::suite) hpos]) (SP X a D) X.xe y) X.xe A) X.xe B) _
  PassesOwn.looking ?_ [] s σ H D (I.adB _) h) (λf d q=>?_) λ_ _ q=>q
 .
  intro F c H1 d e cls dx fl S I1 j x hE;obtain⟨C,rfl,G,P⟩:=hE;have lo1:∀b,(b=e\/(EY (Cd X a X.xe) F H1 b\/d.heap.get? b=none))->EY (Cd X a X.xe) F H1 b\/d.heap.get? b=none:=λb z=>z.elim (λz=> .inl (by rw[z];exact j)) λz=>z;have Q:X.A.frames=some (X.env::X.outer):=by rw[←g];exact I.ok.frames
  have U:d.heap.FunFrames X.base (X.env::X.outer):=by rw[←g];exact I1.stack
  refine Z0 (base:=X.base) (lo:=λT=>EY (Cd X a X.xe) F H1 T\/d.heap.get? T=none) S Q U R (x.imp λT _ z=> .inl z) (λT z=> .inr z) λh1 n1 x1=>?_;refine RW (fr:=frs (X.env::X.outer)) x1 λh2 n2 x2=>?_;have O:rD (frs X.stack) e (λT=>EY (Cd X a X.xe) F H1 T\/d.heap.get? T=none) d.heap h2:=by rw[g];exact n1.trans n2
  have I2:Inv X a c H1 {d with heap:=h2}:=(I1.noted O lo1).DR;refine wpAny_handleBy_cons (codeAny_handlers_test (pC (I2.SX e) hg hm ?_ hd)) (by intro z;cases z);obtain⟨oe,vs,q1,q2,q3,q4⟩:=x2.there;refine Jq (K:=X.K) I2.oH q1 q2 V.cl V.ty V.bs G ?_;rw[ac_ rfl];refine codeAny_handlers_suite_as ?_;refine RW (fr:=frs (X.env::X.outer)) x2 λW n3 x3=>?_;have n13:rD (frs X.stack) e (λT=>EY (Cd X a X.xe) F H1 T\/d.heap.get? T=none) d.heap W:=by rw[g];exact(n1.trans n2).trans n3
  have I3:Inv X a c H1 {d with heap:=W}:=(I1.noted n13 lo1).DR;have Y:EY X a H1 e:=⟨j.1,j.2.1,j.2.2.1,j.2.2.2.1,j.2.2.2.2.1,λp hp=>j.2.2.2.2.2 p (List.mem_append_left _ hp)⟩;have I4:Inv X a c (upd H1 e (XO C dx e)) {d with heap:=W}:=I3.track hx Y x3;refine uP (X:=G8 X e) (I4.SX e) L hi (.inl w) (v:= .ref e) rfl (λs5 I5=>?_) (.inr w);refine wpAny_mono (hh e a s5 _ _ (aeS D i) I5 (P e j.1)) (λf s6 q6=>?_) λ_ _ z=>z.elim;cases f with
  | next=>
    obtain⟨k,t,o,l⟩:=q6;exact sG (o.Gr I.ok.hd) L hi w λM m=>⟨_,t,m,l⟩
  | brk=>
    obtain⟨k,t,o,l⟩:=q6;exact sG (o.Gr I.ok.hd) L hi w λM m=>⟨_,t,m,l⟩
  | cont=>
    obtain⟨k,t,o,l⟩:=q6;exact sG (o.Gr I.ok.hd) L hi w λM m=>⟨_,t,m,l⟩
  | ret u=>
    obtain⟨v6,k,t,o,N,l⟩:=q6;exact sG (o.Gr I.ok.hd) L hi w λM m=>⟨v6,_,t,m,N,l⟩
 .cases f with
  | next=>obtain⟨c,H1,J,r⟩:=q;exact wpAny_execs_nil ⟨c,H1,J.DR,r⟩
  | brk=>obtain⟨c,H1,J,r⟩:=q;exact⟨c,H1,J.DR,r⟩
  | cont=>obtain⟨c,H1,J,r⟩:=q;exact⟨c,H1,J.DR,r⟩
  | ret u=>obtain⟨v,c,H1,J,N,r⟩:=q;exact⟨v,c,H1,J.DR,N,r⟩
end
theorem tO{o:Obj}{vs:Array Value}(h:o.data=.fields vs):W.notCls o=true:=by
 obtain⟨c,d,b,a⟩:=o;simp only at h;subst h;rfl
theorem Xd{e:Addr}{h:Heap}(x:dM P w H h e (XO C none e)):∃ox odo,W.InstAt h e ox C odo:=by
 obtain⟨⟨a,f,q,d,c,b⟩,_⟩:=x;exact⟨a,none,⟨q,d,tO b,by rw[c];trivial⟩⟩
structure yG(K:zzy)(C D:Addr)(b:Bool):Prop where
 ne:(Value.ref C==Value.ref D)=false
 sub:W.subIn K (.ref C) (.ref D)=some b
theorem Jv:W.kitOne K (.ref C) (.ref C)=some true:=by
 unfold W.kitOne;rw[ac_ (by simp)]
end L2
namespace L2
open PySem
structure Xr(K:zzy)(mg:zzv)(C:Addr)(nm:Str):Prop where
 bd:mg nm=some (.ref C)
 hd:XHd K C
 xc:W.WL K C
 ex:W.excIn K C [.type "ValueError",.type "Exception",.type "BaseException",.type "object"] "ValueError.__new__" = true
 ve:W.subIn K (.ref C) (.type "ValueError")=some true
structure Xo(K:zzy)(mg:zzv)(C D:Addr)(nm:Str)(b:Bool):Prop where
 bd:mg nm=some (.ref D)
 hd:XHd K D
 pr:yG K C D b
end L2
namespace L2
open PySem PySem.Spec PyProof.Rows
theorem Inv.rM(I:Inv X pins σ H s)(f:∀b∈fp,rJ X pins H b)(k:∀b o,b∉fp->s.heap.get? b=some o->h'.get? b=some o):Inv X pins σ H {s with heap:=h',toks:=t'}:=by
 have d:∀b u,H b=some u->b∉fp:=λb u e z=>by rw[(f b z).1] at e;cases e
 refine I.step (g':=s.gens) (d':=s.drawn) (ch:=fp) (λb i=>?_) (λb o _ _ a e _=>k b o a e) (λb o _ _ a e _=>⟨o.slots,k b o a e⟩) (λ_ _ _ _ n=>n)
  (λb o a e=>⟨o,k b o a e⟩) (λ_ _ e=>e) (λ_ _ _ e=>e) (λb y e=>⟨#[],by rw[e];simp⟩) (λm h=>?_) (λb u e=>?_) I.bare
 .obtain⟨B,t,A,p,l,j⟩:=f b i
  exact⟨p,t,l,j⟩
 .obtain⟨o,w,x,g,r⟩:=h
  exact⟨o,w,x,k _ o (λz=>(f _ z).2.1 rfl) g,r⟩
 .refine(I.hok b u e).stay (λc v a q=>k c v ?_ q) (λ_ q=>q) λ_ _ q=>q
  rcases a with z|z
  .rw[z];exact d b u e
  .exact d c _ z
theorem rJ.upd{b p:Addr}{o:HO}(h:rJ X pins H b)(n:b≠p):rJ X pins (upd H p o) b:=by
 obtain⟨a,r⟩:=h;exact⟨by rw[aF n];exact a,r⟩
theorem BZ{h:Heap}{o u:Obj}(d:o.isFreed=false)(e:(h.push o).get? b=some u):(b=h.objs.size/\u=o)\/h.get? b=some u:=by
 by_cases c:b=h.objs.size
 .subst c
  rw[aao _ d] at e;exact .inl ⟨Z,(abe e).symm⟩
 .refine .inr ?_
  have lt:=aap e
  have a:b<h.objs.size:=by
   have:(h.push o).objs.size=h.objs.size+1:=by simp[Heap.push]
   rw[this] at lt;exact Nat.lt_of_le_of_ne (Nat.le_of_lt_succ lt) c
  have:(h.push o).get? b=h.get? b:=by
   simp only[Heap.get?,Heap.push];rw[Array.getElem?_push_lt a,Array.getElem?_eq_getElem a]
  rw[←this];exact e
def Ite(K:zzy)(l:Addr):It:=
 ⟨λi H=>∃xs x,bG K H l xs/\xs[i]?=some x,λi H x H'=>∃(p:Addr) (y:V),x=.ref p/\H p=none/\(∀xs,bG K H l xs->xs[i]?=some y)/\H'=upd H p (.tup [.int i,y]),λi H=>∃xs,bG K H l xs/\xs.length<=i⟩
theorem Qe(l e it:Addr)(t:e≠it):Turn P w K (.Tuple elts x1 pos) (Ite K l) [e,it] e (λi h=>(∃old,IsEnum h e it i old)/\h.IsListIter it l i) where
 mem:=by simp
 obj:=λi h j b g=>by
  obtain⟨⟨old,f⟩,o,m,c,d⟩:=j;have n:b=e\/b=it:=by simpa using g
  rcases n with rfl|rfl
  .exact⟨_,f,λv z=>by cases z⟩
  .exact⟨o,m,λv z=>by rw[d] at z;cases z⟩
 keep:=λi h h' j k=>by
  obtain⟨⟨old,f⟩,o,m,c,d⟩:=j;exact⟨⟨old,k e (by simp) _ f⟩,o,k it (by simp) _ m,c,d⟩
 item:=by
  intro X Q hw R U i a s S H E I D j M;subst Q hw R;obtain⟨W,x,B,L⟩:=M;obtain⟨G,F,p,hz⟩:=I.list B;obtain⟨u,hu,Y⟩:=F.get L;obtain⟨⟨old,f⟩,C⟩:=j;have elt:=aap f;have J:it<s.heap.objs.size:=by obtain⟨o,m,_⟩:=id C;exact aap m
  refine wpAny_pyNext_enum_item f C p.isList (x:=u) (by simpa using hu) t λh' r hit q a0 hk=>?_;refine⟨_,Z,?_⟩;refine wpAny_letOwnedTupleGo_enum r λh2 O T=>?_;have N:H s.heap.objs.size=none:=I.hok.fresh (aaw _)
  have I0:Inv X a S (upd H s.heap.objs.size (.tup [.int i,x])) {s with heap:=s.heap.push {cls:= .type "tuple",data:= .seq #[.int i s.toks,u]}}:=
   I.laid (t':=s.toks) (λb u e=>aan _ e) (aaw _) ⟨by show 2<=sizeLine;decide,[.int i s.toks,u],.cons ⟨_,Z⟩ (.cons Y .nil),⟨_,aao _ rfl,Z,_,Z⟩⟩
  have ne1:e≠s.heap.objs.size:=abX elt;have ne2:it≠s.heap.objs.size:=abX J
  have y:∀b∈[e,it],rJ X a (upd H s.heap.objs.size (.tup [.int i,x])) b:=λb g=>by
   have n:b=e\/b=it:=by simpa using g
   rcases n with rfl|rfl
   .exact(D _ (by simp)).upd ne1
   .exact(D _ (by simp)).upd ne2
  have I1:=I0.rM (h':=h2) (t':=s.toks+1) y (λb o g A=>by
   have V:b≠e:=λz=>g (by simp[z]);have b2:b≠it:=λz=>g (by simp[z]);rw[T.2 b V];rcases BZ rfl A with ⟨rfl,rfl⟩|A
   .exact q
   .exact hk b o V b2 A)
  refine⟨.ref s.heap.objs.size,_,I1,Z,⟨s.heap.objs.size,x,Z,N,λys hy=>by rw[I.vI hy B];exact L,Z⟩,⟨⟨u,O⟩,?_⟩,λb g=>(y b g).1⟩;obtain⟨o,m,c,d⟩:=hit;exact⟨o,(T.2 it (Ne.symm t)).trans m,c,d⟩
 done:=by
  intro X Q hw R U i a s S H E I D j M;subst Q hw R;obtain⟨W,B,L⟩:=M;obtain⟨G,F,p,hz⟩:=I.list B;obtain⟨⟨old,f⟩,C⟩:=j;have hl:=F.length;exact wpAny_pyNext_enum_end (I.ok.hd U) f C p.isList (by simp;lia) λh' A=>⟨Z,I.rM (t':=s.toks) D (λb o g e=>A b o (λz=>g (by simp[z])) e)⟩
 self:=λ_ _ _ _ _ j h=>by
  obtain⟨⟨old,f⟩,_⟩:=j;exact wpAny_pyIter_enum f h
inductive OJ(K:zzy)(R:It->Hp->Prop)(vs:List V)(H1:Hp):Prop|m:∀l xs,vs=[.ref l]->bG K H1 l xs->R (Ite K l) H1->OJ K R vs H1
def aey(K:zzy)(a:TA):TI:=λσ H R=>a σ H λvs H1=>OJ K R vs H1
theorem Ht:bootBuiltins "enumerate" = some (.type "enumerate"):=by kernel_rfl
theorem Ur{a:Expr}{j:TA}{p:Pos}(B:X.K=K)(y:Gl X "enumerate")(w:X.mg "enumerate" = none)(A:PA X [a] j)(hs:starEach [a] X.env=[(false,eval a X.env)]:=by rfl):PI X (.Tuple elts x1 tpos) (.Call (.Name "enumerate" p) [a] [] pos) (aey K j):=by
 subst B;intro c s i H R I h;refine Call_ (pF I y w Ht (PyProof.Rows.callWith_type1 (dG (A pos c s i H _ I h) λJ d ⟨G,H1,f,n,q1⟩=>?_) hs rfl));obtain⟨l,F,e,v,q⟩:=q1;subst e;cases n with
 | cons r m=>
   cases m;cases r;obtain⟨t,L,o,M⟩:=f.list v;refine call_enumerate_list o.isList λD k C u x=>?_;refine wpAny_pyIter_enum k ?_;have E:Inv X c i H1 {d with heap:=D}:=f.kept (t':=d.toks) x;refine⟨d.heap.objs.size+1,[d.heap.objs.size+1,d.heap.objs.size],_,_,H1,Z,E,Qe l _ _ (by simp),⟨⟨_,k⟩,C⟩,λb z=>?_,q⟩;have g:b=d.heap.objs.size+1\/b=d.heap.objs.size:=by simpa using z
   rcases g with rfl|rfl
   .exact f.yS (Nat.le_succ _) (f.hok.fresh (Nat.le_succ _))
   .exact f.yS (aaw _) (f.hok.fresh (aaw _))
def Itz(K:zzy)(b a:Addr):It:=
 ⟨λi H=>∃xs ys x y,bG K H b xs/\bG K H a ys/\xs[i]?=some x/\ys[i]?=some y,
  λi H x H'=>∃(p:Addr) (y z:V),x=.ref p/\H p=none/\(∀xs,bG K H b xs->xs[i]?=some y)/\(∀ys,bG K H a ys->ys[i]?=some z)/\H'=upd H p (.tup [y,z]),
  λi H=>∃xs ys,bG K H b xs/\bG K H a ys/\(xs.length<=i\/ys.length<=i)⟩
theorem Sw(z TI TO m l l1 l2:Addr)(ap:ZipApart z TI TO m l l1 l2):Turn P w K (.Tuple elts x1 pos) (Itz K l1 l2) [z,TI,TO,m,l] z
 (λi h=>IsZip h z TI TO .none/\IsPair h TI (.ref m) (.ref l)/\(∃a b,IsPair h TO a b)/\h.IsListIter m l1 i/\h.IsListIter l l2 i) where
 mem:=by simp
 obj:=λi h n b g=>by
  obtain⟨t,d,⟨a,c,f⟩,⟨R,h1,U,O⟩,⟨Q,L,T,N⟩⟩:=n;have A:b=z\/b=TI\/b=TO\/b=m\/b=l:=by simpa using g
  rcases A with rfl|rfl|rfl|rfl|rfl
  .exact⟨_,t,λv z=>by cases z⟩
  .exact⟨_,d,λv z=>by cases z⟩
  .exact⟨_,f,λv z=>by cases z⟩
  .exact⟨_,h1,λv z=>by rw[O] at z;cases z⟩
  .exact⟨_,L,λv z=>by rw[N] at z;cases z⟩
 keep:=λi h h' n k=>by
  obtain⟨t,d,⟨a,c,f⟩,⟨R,h1,U,O⟩,⟨Q,L,T,N⟩⟩:=n;exact⟨k z (by simp) _ t,k TI (by simp) _ d,⟨a,c,k TO (by simp) _ f⟩,⟨R,k m (by simp) _ h1,U,O⟩,⟨Q,k l (by simp) _ L,T,N⟩⟩
 item:=by
  intro X hP hw hK hc i j s σ H E I hf n hg;subst hP hw hK;obtain⟨xs,ys,x,y,q,p,B,S⟩:=hg;obtain⟨Jx,X7,p1,a3⟩:=I.list q;obtain⟨D,Z_,p2,a2⟩:=I.list p;obtain⟨Y,a7,a1⟩:=X7.get B;obtain⟨W,a6,a0⟩:=Z_.get S;obtain⟨t,d,⟨a,c,f⟩,hi1,r⟩:=n;have V:=aap t;have b7:=aap d;have b8:=aap f;have c0:m<s.heap.objs.size:=by obtain⟨o,ho,_⟩:=id hi1;exact aap ho
  have c3:l<s.heap.objs.size:=by obtain⟨o,ho,_⟩:=id r;exact aap ho
  refine wpAny_pyNext_zip_item ap t d f hi1 r p1.isList p2.isList (x:=Y) (y:=W) (by simpa using a7) (by simpa using a6) λh' a4 b5 b6 G F c5 hk=>?_;refine⟨_,Z,?_⟩;refine wpAny_letOwnedTupleGo_zip a4 λL b9 C=>?_;have b0:H s.heap.objs.size=none:=I.hok.fresh (aaw _)
  have I0:Inv X j σ (upd H s.heap.objs.size (.tup [x,y])) {s with heap:=s.heap.push {cls:= .type "tuple",data:= .seq #[Y,W]}}:=
   I.laid (t':=s.toks) (λb u e=>aan _ e) (aaw _) ⟨by show 2<=sizeLine;decide,[Y,W],.cons a1 (.cons a0 .nil),⟨_,aao _ rfl,Z,_,Z⟩⟩
  have J:∀b∈[z,TI,TO,m,l],rJ X j (upd H s.heap.objs.size (.tup [x,y])) b:=λb g=>by
   refine(hf b g).upd ?_;have A:b=z\/b=TI\/b=TO\/b=m\/b=l:=by simpa using g
   rcases A with rfl|rfl|rfl|rfl|rfl
   .exact abX V
   .exact abX b7
   .exact abX b8
   .exact abX c0
   .exact abX c3
  have I1:=I0.rM (h':=L) (t':=s.toks) J (λb o g M=>by
   have b1:b≠z:=λe=>g (by simp[e]);have b2:b≠TO:=λe=>g (by simp[e]);have b3:b≠m:=λe=>g (by simp[e]);have b4:b≠l:=λe=>g (by simp[e]);rw[C.2 b b1];rcases BZ rfl M with ⟨rfl,rfl⟩|M
   .exact F
   .exact hk b o b1 b2 b3 b4 M)
  refine⟨.ref s.heap.objs.size,_,I1,Z,⟨s.heap.objs.size,x,y,Z,b0,λys S=>by rw[I.vI S q];exact B,λc4 a5=>by rw[I.vI a5 p];exact S,Z⟩,?_,λb g=>(J b g).1⟩;obtain⟨R,a9,U,O⟩:=b6;obtain⟨Q,a8,T,N⟩:=G;exact⟨b9,(C.2 TI ap.TIz).trans (hk TI _ ap.TIz ap.TITO ap.TIi1 ap.TIi2 d),⟨_,_,(C.2 TO ap.TOz).trans b5⟩,⟨R,(C.2 m ap.i1z).trans a9,U,O⟩,⟨Q,(C.2 l ap.i2z).trans a8,T,N⟩⟩
 done:=by
  intro X hP hw hK hc i j s σ H E I hf n hg;subst hP hw hK;obtain⟨xs,ys,q,p,B⟩:=hg;obtain⟨Jx,X7,p1,a3⟩:=I.list q;obtain⟨D,Z_,p2,a2⟩:=I.list p;obtain⟨t,d,⟨a,c,f⟩,hi1,r⟩:=n;have c7:=X7.length;have c6:=Z_.length;refine wpAny_pyNext_zip_end (I.ok.hd hc) ap t d f hi1 r p1.isList p2.isList ?_ λh' M=>⟨Z,I.rM (t':=s.toks) hf (λb o g e=>M b o (λz=>g (by simp[z])) (λz=>g (by simp[z])) (λz=>g (by simp[z])) (λz=>g (by simp[z])) e)⟩;rcases B with B|B
  .exact .inl (by simp;lia)
  .exact .inr (by simp;lia)
 self:=λ_ _ _ _ _ n h=>wpAny_pyIter_zip n.1 h
section
variable{Q:VK}{H1:Hp}
theorem Ws(j:xs.length=n)(h:ys.length=n)(c:Nat->St->Hp->Prop)(C:c 0 σ0 (upd H1 D (.lst [])))(w:∀i σ H,i<=n->c i σ H->bG K H l1 xs/\bG K H l2 ys)(hs:∀i x y σ H p,xs[i]?=some x->ys[i]?=some y->c i σ H->H p=none->g (.ref p) σ (upd H p (.tup [x,y])) λa H2=>tc a H2 λb l=>
   if b=true then te a l λy k=>∃f,k D=some (.lst f)/\f.length<sizeLine/\c (i+1) a (upd k D (.lst (f++[y]))) else c (i+1) a l)(B:∀σ H,c n σ H->Q (.ref D) H):jk (Itz K l1 l2) g tc te Q D σ0 H1:=by
 refine⟨λi m σ H=>m=n-i/\i<=n/\c i σ H,⟨n,by simp,Nat.zero_le _,C⟩,?_⟩;rintro i m σ H ⟨rfl,A,p⟩;obtain⟨q1,q2⟩:=w i σ H A p
 by_cases d:i<n
 .refine .inr ⟨⟨xs,ys,xs[i],ys[i],q1,q2,by simp[j,d],by simp[h,d]⟩,c (i+1),λo E q=>⟨n-(i+1),by lia,Z,d,q⟩,λx E y=>?_⟩
  obtain⟨t,z,u,rfl,v,r,s,rfl⟩:=y;exact hs i z u σ _ t (r xs q1) (s ys q2) p v
 .have e:i=n:=by lia
  subst e;exact .inl ⟨⟨xs,ys,q1,q2,.inl (by lia)⟩,B σ H p⟩
end
section
variable{D:Ends}
theorem V7(b:Nat->St->Hp->Prop)(s:b 0 σ H)(n:∀i σ H,i<=xs.length->b i σ H->bG K H a xs)(hs:∀i x σ H p,xs[i]?=some x->b i σ H->H p=none->g (.ref p) σ (upd H p (.tup [.int i,x])) λc H2=>tb {D with nx:=b (i+1),ct:=b (i+1),bk:=D.nx} c H2)(r:∀σ H,b xs.length σ H->D.nx σ H):
 ∃W:Nat->Nat->St->Hp->Prop,(∃m,W 0 m σ H) /\ ∀i m σ H,W i m σ H ->
  ((Ite K a).stop i H/\D.nx σ H)\/((Ite K a).go i H /\ ∃N:St->Hp->Prop,(∀d H',N d H' -> ∃h,h<m/\W (i+1) h d H') /\ ∀x H',(Ite K a).yld i H x H'->g x σ H' λc H2=>tb {D with nx:=N,ct:=N,bk:=D.nx} c H2):=by
 refine⟨λi m σ H=>m=xs.length-i/\i<=xs.length/\b i σ H,⟨xs.length,by simp,Nat.zero_le _,s⟩,?_⟩;rintro i m σ H ⟨rfl,o,p⟩;have q:=n i σ H o p
 by_cases f:i<xs.length
 .refine .inr ⟨⟨xs,xs[i],q,by simp[f]⟩,b (i+1),λd H' j=>⟨xs.length-(i+1),by lia,Z,f,j⟩,λx H' y=>?_⟩
  obtain⟨t,z,rfl,l,k,rfl⟩:=y;exact hs i z σ _ t (k xs q) p l
 .have e:i=xs.length:=by lia
  subst e;exact .inl ⟨⟨xs,q,aaw _⟩,r σ H p⟩
end
theorem zY:∀{ns:List Int}{us:zzt},Vals (ns.map V.int) us->IntsAre us ns
 | [],us,r=>by cases r;exact .nil
 | n::ns,us,r=>by
   cases r with
   | cons r rs=>
     obtain⟨t,rfl⟩:=r;exact .cons n t (zY rs)
def Yj:V->List V->Hp->VK->Prop:=λx vs H Q=>∃(l:Addr) (ns:List Int) (i:Int),x=.ref l/\vs=[.int i]/\bG X.K H l (ns.map V.int)/\Q (.int (ns.count i)) H
theorem Vr:MtR X "list.count" (Yj (X:=X)):=by
 intro a s k H x m v n Q I b c h;obtain⟨l,o,i,rfl,rfl,j,q⟩:=h;cases b;obtain⟨u,rfl,d⟩:=c.one;obtain⟨t,rfl⟩:=d;obtain⟨g,e,f,p⟩:=I.list j;exact count_list_ints f.isList (zY e) ⟨.int _,H,I.tok _,⟨_,Z⟩,q⟩
theorem Bm(ns:List Int):∀n,n<=ns.length->preSum (λi=>(ns[i]?).getD 0) n=(ns.take n).sum
 | 0,_=>by simp[preSum]
 | n+1,h=>by
   have a:=Bm ns n (by lia);have b:n<ns.length:=h;rw[List.take_succ,List.sum_append,←a];simp[preSum,b]
def ahd(K:zzy):List V->Hp->VK->Prop:=λxs H Q=>∃(p:Addr) (ns:List Int),xs=[.ref p]/\bG K H p (ns.map V.int)/\Q (.int ns.sum) H
theorem Ep(S:X.K=K)(R:X.calm=true):jt X (.builtin "sum") (ahd K):=by
 subst S;intro d s F H U W Q I r h;obtain⟨p,c,rfl,O,q⟩:=h;obtain⟨u,rfl,G⟩:=vals1 r;cases G;obtain⟨a,m,l,Y⟩:=I.list O;have e:=zY m;have D:a.length=c.length:=by rw[←m.length,aae]
 refine call_sum_walkG (wpAny_pyIter_list l.isList ⟨s.heap.objs.size,[s.heap.objs.size,p],[s.heap.objs.size],a.length,_,_,λi=>(c[i]?).getD 0,Z,
  zX (show X.A.in1.handled=none from I.ok.hd R) s.heap.objs.size p ?_ a,⟨⟨_,aao _ rfl,Z,Z⟩,?_⟩,?_,?_,?_⟩)
 .intro z
  obtain⟨o,g,_⟩:=l.isList;have:=aap g;rw[←z] at this;exact ac4 _ this
 .obtain⟨o,g,w⟩:=l.isList
  exact⟨o,aan _ g,w⟩
 .intro b A
  have n:(s.heap.push {cls:= .type "list_iterator",data:= .fields #[.ref p,.int 0 0]}).objs.size=s.heap.objs.size+1:=by simp[Heap.push]
  have y:b=s.heap.objs.size\/b=p:=by simpa using A
  show b<(s.heap.push _).objs.size;rw[n];rcases y with rfl|rfl
  .exact Nat.lt_succ_self _
  .obtain⟨o,g,_⟩:=l.isList
   exact Nat.lt_succ_of_lt (aap g)
 .intro i v E
  obtain⟨j,P,L⟩:∃j,c[i]?=some j /\ ∃t,v=.int j t:=by
   have hi:i<a.length:=(aak.mp E).1;have M:=(m.get (i:=i) (x:=V.int (c[i]'(by lia))) (by simp[show i<c.length by lia]));obtain⟨u,C,J⟩:=M;rw[E] at C;cases C;obtain⟨t,N⟩:=J;exact⟨c[i]'(by lia),by simp[show i<c.length by lia],t,N⟩
  obtain⟨t,rfl⟩:=L;exact⟨t,by simp[P]⟩
 .intro h' B t' k
  rw[Bm c a.length (by lia),List.take_of_length_le (by lia)];have f:=I.yS (H':=H) (b:=s.heap.objs.size) (aaw _) (I.hok.fresh (aaw _));have T:Inv X d F H {s with heap:=h',toks:=B}:=I.turned (h':=h') (t':=B) (it:=s.heap.objs.size) (λb o A e=>k b o (by simpa using A) (aan _ e)) f.1 f.2.1 f.2.2.2.1 f.2.2.2.2.1 f.2.2.2.2.2;exact⟨.int _,H,T,⟨_,Z⟩,q⟩
theorem xO{name id:String}{r:V->List V->Hp->VK->Prop}{o:Expr}{t:TA}(h:X.K=K)(g:PlainAttrs T)(slot:Slot T name id)(f:typeOf (.builtin id)=pure (.type "method_descriptor"))(j:MtR X id r)(i:PE X o to)(k:PA X (e::es) t)(c:attributeBase o name X.env (eval o X.env)=eval o X.env:=by rfl)(d:((backTo cpos (starEach (e::es) X.env)).all (λx=> !x.1)&&(backToKw cpos (keywordEach [] X.env)).all (λx=>x.1.isSome)
   && decide ((e::es).length+([]:List Keyword).length+(if ([]:List Keyword).isEmpty then 0 else 1)<30))=true:=by rfl)(b:(apos.endLine==cpos.line)=true:=by rfl)(hs:starEach (e::es) X.env=(false,eval e X.env)::starEach es X.env:=by rfl)(a:(backTo cpos (starEach es X.env)).any (·.1)=false:=by rfl):
 PE X (.Call (.Attribute o name apos) (e::es) [] cpos) (tBM K T r to t):=by
 subst h;exact aaf g slot f j i k c d b hs a
def K1(K:zzy):V->List V->Hp->VK->Prop:=λx vs H Q=>∃(l:Addr) (ns:List Int) (i:Int),x=.ref l/\vs=[.int i]/\bG K H l (ns.map V.int)/\Q (.int (ns.count i)) H
theorem xQ(h:X.K=K):MtR X "list.count" (K1 K):=by subst h;exact Vr
theorem Gm{t:TGs}(d:X.K=K)(c:X.calm=true)(h:PGs X es t)(b:(assignEach es X.env).length=n:=by rfl)(a:(assignEach es X.env).findIdx? (·.1)=none:=by rfl):PG X (.Tuple es k pos) (V5 K n t):=by subst d;exact abr c h b a
end L2
namespace L2
open PySem
section
variable{Q:VK}{rest:St}{H1:Hp}
theorem d8{α:Type}(f:Nat->Option α)(n:Nat):(List.range (n+1)).filterMap f=(List.range n).filterMap f++(f n).toList:=by
 rw[List.range_succ,List.filterMap_append];cases h:f n<;>simp[h]
theorem ur{α:Type}(f:Nat->Option α)(n:Nat):((List.range n).filterMap f).length<=n:=by
 have:=List.length_filterMap_le f (List.range n);simpa using this
theorem Same.newly{H1:Hp}{o:HO}(h:Same H H1)(n:H D=none):Same H (upd H1 D o):=λb u e=>by rw[aF (aA e n)];exact h b u e
theorem jV(f:Nat->Option V)(m:H1 D=none)(n:bG K H1 a xs)(q:xs.length<=100000)(hs:∀i x H (G:Hp->Prop) (F:VK),xs[i]?=some x->Same H1 H->(∀H',Same H H'->f i=none->G H')->(∀y H',Same H H'->f i=some y->F y H')->tc (some x::rest) H λb h=>if b=true then te (some x::rest) h F else G h)(p:∀H,Same H1 H->H D=some (.lst ((List.range xs.length).filterMap f))->Q (.ref D) H):jk (ZR K a) (bU 0) tc te Q D (none::rest) H1:=by
 refine jE (K:=K) (xs:=xs) (λi d H=>(∃v,d=v::rest)/\Same H1 H/\H D=some (.lst ((List.range i).filterMap f))) ⟨⟨none,Z⟩,aH m,ak⟩ (λi d H _ ⟨_,c,_⟩=>c.sqL _ _ n) ?_ (λd H ⟨_,c,e⟩=>p H c e);rintro i x d H l ⟨⟨v,rfl⟩,c,e⟩;have o:i<xs.length:=(aak.mp l).1;refine hs i x H _ _ l c (λh k g=>⟨⟨_,Z⟩,c.trans k,by rw[k _ _ e,d8,g];simp⟩) (λy r j g=>?_);refine⟨_,j _ _ e,?_,⟨_,Z⟩,(c.trans j).newly m,?_⟩
 .have:=ur f i
  rw[sizeLine_eq];lia
 .rw[ak,d8,g];rfl
theorem Rk(f:Nat->Option V)(m:H1 D=none)(n:H1 a=some (.tup xs))(q:xs.length<=100000)(hs:∀i x H (G:Hp->Prop) (F:VK),xs[i]?=some x->Same H1 H->(∀H',Same H H'->f i=none->G H')->(∀y H',Same H H'->f i=some y->F y H')->tc (some x::rest) H λb h=>if b=true then te (some x::rest) h F else G h)(p:∀H,Same H1 H->H D=some (.lst ((List.range xs.length).filterMap f))->Q (.ref D) H):jk (Itt K a) (bU 0) tc te Q D (none::rest) H1:=by
 refine Wt (K:=K) (xs:=xs) (λi d H=>(∃v,d=v::rest)/\Same H1 H/\H D=some (.lst ((List.range i).filterMap f))) ⟨⟨none,Z⟩,aH m,ak⟩ (λi d H _ ⟨_,c,_⟩=>cD.of (c.tups _ _ n)) ?_ (λd H ⟨_,c,e⟩=>p H c e);rintro i x d H l ⟨⟨v,rfl⟩,c,e⟩;have o:i<xs.length:=(aak.mp l).1;refine hs i x H _ _ l c (λh k g=>⟨⟨_,Z⟩,c.trans k,by rw[k _ _ e,d8,g];simp⟩) (λy r j g=>?_);refine⟨_,j _ _ e,?_,⟨_,Z⟩,(c.trans j).newly m,?_⟩
 .have:=ur f i
  rw[sizeLine_eq];lia
 .rw[ak,d8,g];rfl
theorem oE(f:Nat->Option V)(k:H1 D=none)(o:n<=100000)(hs:∀i H (G:Hp->Prop) (F:VK),i<n->Same H1 H->(∀H',Same H H'->f i=none->G H')->(∀y H',Same H H'->f i=some y->F y H')->tc (some (.int (0+i))::rest) H λb g=>if b=true then te (some (.int (0+i))::rest) g F else G g)(m:∀H,Same H1 H->H D=some (.lst ((List.range n).filterMap f))->Q (.ref D) H):jk (Xc 0 n) (bU 0) tc te Q D (none::rest) H1:=by
 refine jD (lo:=0) (n:=n) (λi c H=>(∃v,c=v::rest)/\Same H1 H/\H D=some (.lst ((List.range i).filterMap f))) ⟨⟨none,Z⟩,aH k,ak⟩ ?_ (λc H ⟨_,a,e⟩=>m H a e);rintro i c H l ⟨⟨v,rfl⟩,a,e⟩;refine hs i H _ _ l a (λg j d=>⟨⟨_,Z⟩,a.trans j,by rw[j _ _ e,d8,d];simp⟩) (λy p h d=>?_);refine⟨_,h _ _ e,?_,⟨_,Z⟩,(a.trans h).newly k,?_⟩
 .have:=ur f i
  rw[sizeLine_eq];lia
 .rw[ak,d8,d];rfl
theorem Rj(l:xs.length=n)(k:ys.length=n)(f:Nat->Option V)(w:H1 D=none)(j:bG K H1 l1 xs)(h:bG K H1 l2 ys)(C:n<=100000)(hs:∀i x y H (G:Hp->Prop) (F:VK),xs[i]?=some x->ys[i]?=some y->Same H1 H->(∀H',Same H H'->f i=none->G H')->(∀y H',Same H H'->f i=some y->F y H')->tc (some x::some y::rest) H λb r=>if b=true then te (some x::some y::rest) r F else G r)(B:∀H,Same H1 H->H D=some (.lst ((List.range n).filterMap f))->Q (.ref D) H):jk (Itz K l1 l2) (V5 K 2 (Ej (bU 0) (Ej (bU 1) acj))) tc te Q D (none::none::rest) H1:=by
 refine Ws (K:=K) (xs:=xs) (ys:=ys) l k (λi g H=>(∃u v,g=u::v::rest)/\Same H1 H/\H D=some (.lst ((List.range i).filterMap f))) ⟨⟨none,none,Z⟩,aH w,ak⟩ (λi g H _ ⟨_,a,_⟩=>⟨a.sqL _ _ j,a.sqL _ _ h⟩) ?_ (λg H ⟨_,a,e⟩=>B H a e);rintro i x y g H p d m ⟨⟨u,v,rfl⟩,a,e⟩ z;have c:=aH (o:=HO.tup [x,y]) z;refine⟨p,[x,y],Z,cD.of ak,Z,_,_,Z,_,_,Z,Z,?_⟩;have A:i<xs.length:=(aak.mp d).1;refine hs i x y _ _ _ d m (a.trans c) (λr t q=>⟨⟨_,_,Z⟩,(a.trans c).trans t,by rw[t _ _ (c _ _ e),d8,q];simp⟩) (λy E s q=>?_);refine⟨_,s _ _ (c _ _ e),?_,⟨_,_,Z⟩,((a.trans c).trans s).newly w,?_⟩
 .have:=ur f i
  rw[sizeLine_eq];lia
 .rw[ak,d8,q];rfl
theorem JF{α β:Type}{f g:α->Option β}:∀(l:List α)(_:True)(h:∀x∈l,f x=g x),l.filterMap f=l.filterMap g
 | [],_,_=>rfl
 | x::l,_,h=>by
   rw[List.filterMap_cons,List.filterMap_cons,h x (by simp),JF l trivial λy a=>h y (by simp[a])]
theorem snocInd{α:Type}{P:List α->Prop}(b:P [])(hs:∀xs x,P xs->P (xs++[x]))(xs:List α):P xs:=by
 rw[←List.reverse_reverse xs]
 induction xs.reverse with
 | nil=>exact b
 | cons x l a=>rw[List.reverse_cons];exact hs _ _ a
theorem O6{α β:Type}(xs:List α)(g:α->β):(List.range xs.length).filterMap (λi=>(xs[i]?).map g)=xs.map g:=by
 refine snocInd (P:=λxs=>(List.range xs.length).filterMap (λi=>(xs[i]?).map g)=xs.map g) rfl (λxs x a=>?_) xs
 .show (List.range (xs++[x]).length).filterMap (λi=>((xs++[x])[i]?).map g)=(xs++[x]).map g
  rw[abf,acT,d8,ab1];congr 1
  .rw[←a]
   refine JF _ trivial λi b=>?_;have:i<xs.length:=by simpa using b
   rw[abU this]
  .simp
end
theorem u0{a b:TS}{D:Ends}(h:∀R:St->Hp->Prop,(∀c H',b D c H'->R c H')->a {D with nx:=R} σ H):Ik a b D σ H:=h _ (λ_ _ x=>x)
theorem u_{a b:TS}{D:Ends}(P:St->Hp->Prop)(f:∀d:Ends,(∀c H',P c H'->d.nx c H')->d.rt=D.rt->a d σ H)(e:∀c H',P c H'->b D c H'):Ik a b D σ H:=f _ e rfl
end L2
namespace L2
open PySem PySem.Spec PyProof.Rows
section
variable{a:Expr}
def agO(K:zzy)(a:TE):TT:=λσ H Q=>a σ H λx H'=>∃k,acD K x H' k/\Q k H'
theorem DP(h:X.K=K)(b:PE X a ta)(he:∀whole,isTrue a X.env whole=(do let v ←whole;standAt a.pos;holding [v] (truthy v)):=by intro _;rfl):PT X a (agO K ta):=by
 subst h;exact Ui b he
end
theorem Od{name id:String}{r:V->List V->Hp->VK->Prop}{o:Expr}(h:X.K=K)(d:PlainAttrs T)(slot:Slot T name id)(c:typeOf (.builtin id)=pure (.type "method_descriptor"))(f:MtR X id r)(e:PE X o to)(b:attributeBase o name X.env (eval o X.env)=eval o X.env:=by rfl)(a:(apos.endLine==cpos.line)=true:=by rfl):PE X (.Call (.Attribute o name apos) [] [] cpos) (adO K T r to):=by
 subst h;exact abw d slot c f e b a
section
variable{Q:VK}{rest:St}{H1:Hp}
theorem iW{d:PyData}(h:aR H vs ds)(a:Dat H v d):aR H (vs++[v]) (ds++[d]):=aR.append h (by simp only[aR,and_true];exact a)
end
end L2
namespace L2
open PySem
def Gv(mg:zzv)(x:Str)(v:V):Prop:=∃u,mg x=some u/\RelV v u
end L2
namespace L2
open PySem PySem.Spec PyProof.Rows
section
variable{prog:Program}{K:Type}[DecidableEq K]{knd:HeapKind prog w K}
theorem Mq{xs:List (K×Addr×Value)}{k:K}(h:∀(j:Nat)(p:Addr×Value),xs[j]? ≠ some (k,p)):atKey xs k=none:=by
 unfold atKey;rw[Option.map_eq_none_iff,List.find?_eq_none];intro x a e;obtain⟨j,b⟩:=List.getElem?_of_mem a;have c:x.1=k:=aaT e;exact h j x.2 (by rw[b,←c])
theorem Mp{xs:List (K×Addr×Value)}{k:K}{p:Addr×Value}(d:(xs.map (·.1)).Nodup)(h:xs[j]?=some (k,p)):atKey xs k=some p:=by
 unfold atKey
 induction xs generalizing j with
 | nil=>cases h
 | cons x xs c=>
   rw[List.find?_cons];cases j with
   | zero=>
     have:x=(k,p):=by simpa using h
     subst this;simp
   | succ j=>
     have b:xs[j]?=some (k,p):=by simpa using h
     have a:=List.nodup_cons.mp (by simpa using d:(x.1::xs.map (·.1)).Nodup);have ne:¬x.1=k:=λz=>a.1 (by rw[z];exact acL.mpr ⟨(k,p),aaK b,Z⟩);rw[aaQ ne];exact c a.2 b
theorem sY{xs:List (K×Addr×Value)}{k:K}{dflt:Value}(v:knd.room A)(r:knd.is s.heap k a)(dd:Heap.DictOfH knd s.heap d xs)(O:xs.length<=sizeLine)(H:∀p,atKey xs k=some p->Q p.2 {s with toks:=s.toks+knd.draws k})(G:atKey xs k=none -> ∀h',Heap.DictOfH knd h' d (xs++[(k,a,dflt)])->Heap.SameBut d s.heap h'->Q dflt {s with heap:=h',toks:=s.toks+knd.draws k}):
 wpAny (model prog w) A (dictSetDefault d (.ref a) dflt) Q E s:=by
 unfold dictSetDefault;refine wpAny_holding (aax (knd.pyHash v r ?_));obtain⟨o,t,I,c,u,g,i,B,q⟩:=id dd;have P:t.size=xs.length:=by rw[←aaH,i,aae]
 refine aax (wpAny_dictFind_heap (s:={s with toks:=s.toks+knd.draws k}) v r c g i B q (λf=>?_) (λj p h=>?_))
 .refine aax (wpAny_rule ?_)
  have an:=Mq f;refine aax (wpAny_updateDictKeys (s:={s with toks:=s.toks+knd.draws k}) c g ?_ (by lia) (by simp));refine aay ?_;have l:=Heap.SameBut.update s.heap d (Obj.mapDictKeys λx=>x.push {hash:=knd.hash k,key:= .ref a,val:=dflt});refine G an _ ?_ l;obtain⟨N,M,L,D⟩:=o;simp only at g;subst g;refine⟨_,t.push {hash:=knd.hash k,key:= .ref a,val:=dflt},I+1,Heap.get?_update_self _ c ?_,u,Z,?_,?_,?_⟩
  .obtain⟨C,S,R⟩:=u
   simp only at C;subst C;rfl
  .rw[Array.toList_push,i,ab1];rfl
  .intro x b
   rcases acG.mp b with b|b
   .exact knd.keeps (B x b) c rfl l
   .have:x=(k,a,dflt):=by simpa using b
    subst this;exact knd.keeps r c rfl l
  .rw[ab1]
   refine List.nodup_append.mpr ⟨q,by simp,?_⟩;intro y F z m e;have:z=k:=by simpa using m
   subst this;subst e;obtain⟨x,n,rfl⟩:=acL.mp F;obtain⟨j,h⟩:=List.getElem?_of_mem n;exact f j x.2 h
 .refine aax (wpAny_dictEntries (s:={s with toks:=s.toks+knd.draws k}) c g ?_)
  have J:t[j]?=some (entryOfKey knd (k,p)):=by
   rw[←Array.getElem?_toList,i,aam,h];rfl
  rw[J];exact aax (wpAny_rule (aay (H p (Mp q h))))
theorem vG(knd:HeapKind prog w K)(d a:Addr)(r:(d==sysModules)=false)(dflt:Value):MeetsIn prog w (Builtin.«dict.setdefault» {pos:=[.ref d,.ref a,dflt]}) λA R s=>
 knd.room A.in1 /\ ∃k xs,knd.is s.heap k a/\Heap.DictOfH knd s.heap d xs/\xs.length<=sizeLine/\(∀p,atKey xs k=some p->R (.ok (.ret p.2)) {s with toks:=s.toks+knd.draws k}) /\
  (atKey xs k=none -> ∀h',Heap.DictOfH knd h' d (xs++[(k,a,dflt)])->Heap.SameBut d s.heap h'->R (.ok (.ret dflt)) {s with heap:=h',toks:=s.toks+knd.draws k}):=by
 rintro A R s ⟨j,k,xs,q,e,g,u,t⟩;obtain⟨o,z,B,m,h,c,_⟩:=id e;unfold Builtin.«dict.setdefault»;have i:s.TypeIs (.ref d) "dict" :=⟨o,m,h.1⟩;refine aax ?_;unfold Builtin.Dict.keyAndDefault;refine aax ?_;unfold Builtin.Dict.notOrdered;rw[ac_ (by decide)];refine aax (wpAny_typeOf i ?_);rw[ac9 (by decide)];refine aay ?_;refine aax ?_;unfold Builtin.Dict.nameIsSure;rw[ac9 (by show ¬(false=true);decide)];refine aay ?_;refine aax ?_;unfold selfAndSome noKeywords;refine aax ?_;rw[ac_ (by rfl)];refine aay ?_;show wpAny (model prog w) A.in1 (checkCount "setdefault" 1 2 2 >>= λ_=>pure (Value.ref d,[Value.ref a,dflt])) _ _ s;refine aax ?_;have y:checkCount "setdefault" 1 2 2=pure ():=Z;rw[y];refine aay (aay ?_);show wpAny (model prog w) A.in1 (Builtin.Dict.addrOf (.ref d) >>= λx=>pure (x,Value.ref a,some dflt)) _ _ s;refine aax (aay (aay ?_));show wpAny (model prog w) A.in1 (if (d==sysModules)=true then _ else (dictSetDefault d (.ref a) dflt >>= λv=>ret v)) _ _ s;rw[ac9 (by rw[r];decide)];refine aax (sY j q e g (λp l=>aay (u p l)) (λn h' b f=>aay (t n h' b f)))
end
section
variable{o f:Expr}{td ty tx:TE}
def aa2(e ty d:TE):TE:=λσ H Q=>e σ H λx H1=>∃a,x=.ref a/\IsD H1 a/\ty σ H1 λy H2=>d σ H2 λz c=>∃kvs k b,c a=some (.dT kvs)/\y=.ref b/\c b=some (.tup (k.map kV))/\kvs.length<sizeLine /\
 (∀v,gw kvs k=some v->Q v c)/\(gw kvs k=none->Q z (upd c a (.dT (putK kvs k z))))
theorem Ux(hu:X.A.units+1<cLine)(ho:PE X o td)(he:PE X e ty)(hf:PE X f tx)(m:M2 X o "setdefault" apos e f cpos):PE X (.Call (.Attribute o "setdefault" apos) [e,f] [] cpos) (aa2 td ty tx):=by
 intro i s r H Q I h;refine wpAny_Call_method m.base m.few m.line F.plainAttrs_dict F.slot_dict_setdefault F.type_dict_setdefault (dG (ho i s r H _ I h) λu V gQ=>?_);obtain⟨x,H1,P,Y,a,ex,d,q1⟩:=gQ;subst ex;obtain rfl:u=Value.ref a:=Y;obtain⟨t1,S,_⟩:=VG P d;refine⟨t1,S,?_⟩;rw[m.trees]
 refine Calls.callWith_builtin rfl (Calls.evalArgs_plain (Calls.spliced_cons (dG (he i V r H1 _ P q1) λiv U ⟨y,H2,I2,W,q2⟩=>
  Calls.spliced_cons (dG (hf i U r H2 _ I2 q2) λA s3 ⟨z,R,n,E,g,k,b,C,ey,N,hl,q3,q4⟩=>Calls.spliced_nil ?_))))
 subst ey;cases (show iv=Value.ref b from W);obtain⟨hz,L,l,rel,O⟩:=aeY n.hok C;have t:l.length<=sizeLine:=by rw[←Paired.length rel];exact hz
 have j:=rel.val k;refine call_meetsIn F.slot_dict_setdefault O.typeIs F.entry_dict_setdefault (F.args_dict_setdefault_3 _ _ _) (vG (tupleKind (fW X.prog X.w)) a b L A) ⟨tupleKind_room_in1 hu,k,l,Lp n.hok N,O,t,λp hp=>?_,λK h' D T=>?_⟩
 .rw[hp] at j
  cases lv:gw g k with
  | none=>rw[lv] at j;exact ac' j (by simp[nP])
  | some v=>
    rw[lv] at j;exact⟨v,R,n.tok _,j,q3 v lv⟩
 .rw[K] at j
  have lv:gw g k=none:=by
   cases lv:gw g k with
   | none=>rfl
   | some v=>rw[lv] at j;exact ac' j (by simp[nP])
  have w:(putK g k z).length<=sizeLine:=by have:=yw g k z;lia
  obtain⟨q,es,ep,J,h2,h3,h4,_,h5⟩:=D;have B:storedH l k b A=l++[(k,b,A)]:=by unfold storedH;rw[K];rfl
  have G:=rel.put k N E;rw[B] at G;refine⟨z,upd R a (.dT (putK g k z)),Zz (ob:= .dT (putK g k z)) n (by rw[C];exact True.intro) T ⟨q,J⟩ ⟨w,L,_,G.keeps λc ys M=>?_,q,es,ep,J,h2,h3,h4,h5⟩,E,q4 lv⟩;rw[aF (dD M C (λz=>nomatch z))];exact M
end
def ad6(K:zzy):V->V->Hp->VK->Prop:=λx y H Q=>∃p xs i v,x=.ref p/\y=.int i/\bG K H p xs/\0<=i/\xs[i.toNat]?=some v/\Q v H
theorem K6(h:X.K=K):afh X (ad6 K):=by
 subst h;intro b s u H o i x y Q I e f h;obtain⟨p,d,k,v,rfl,rfl,m,j,c,q⟩:=h;cases e;obtain⟨t,rfl⟩:=f;obtain⟨l,r,g,z⟩:=I.list m;obtain⟨w,n,a⟩:=r.get c;have B:=r.length;have A:=uh;have:k.toNat<d.length:=(aak.mp c).1;exact getItem_listL g.isList j (by lia) n ⟨v,H,I,a,q⟩
end L2
namespace L2
open PySem
theorem JM{r:V->List V->Hp->VK->Prop}{t:TA}{D:Ends}(P:V->Hp->Prop)(c:∀a:VK,(∀v H',P v H'->a v H')->to σ H a)(b:∀v H',P v H'->tyV K T v H'/\t σ H' λxs H2=>r v xs H2 λ_ d=>D.nx σ d):Ti (tBM K T r to t) D σ H:=c _ b
end L2
namespace L2
open PySem PySem.Spec PyProof.Rows
def cat:List Str->Str
 | []=>Str.empty
 | x::xs=>x++cat xs
section
variable{tb:(St->XK)->TS}{cp:Pos}
end
def afp(i j:Int):Prop:=0<j/\j<1329227995784915872903807060280344576
theorem Jd:sZ X (binaryOp .FloorDiv) (rI afp λi j=> .int (i / j)):=opI λi j _ _ _ _ _ a q=>by
 have f:(0:Int)<j:=a.1;have e:j<1329227995784915872903807060280344576:=a.2;refine floordiv_int (by lia) (by rw[Int.fdiv_eq_ediv_of_nonneg i (by lia)];exact q) (.inl ?_);unfold Builtin.divisionGoesByPylong;have c:j.natAbs<2 ^ 120:=by lia
 have d:j.natAbs.log2<120:=(Nat.log2_lt (by lia)).mpr c
 have b:(j==0)=false:=by
  rw[beq_eq_false_iff_ne];lia
 simp only[b,Bool.false_eq_true,if_false];have:¬j.natAbs.log2 / 30+1>300:=by lia
 rw[aaQ this,Bool.false_and]
section
variable{u u':HO}
end
section
variable{o:Obj}{kvs:List (Key×V)}{Q:VK}{rest:St}{H1:Hp}
end
def WW(hi:Int)(n:Nat):It:=⟨λi _=>i<n,λi H x H'=>H'=H/\x=.int (hi-i),λi _=>n<=i⟩
theorem Ii(it:Addr)(hi:Int)(n:Nat):Turn P w K tg (WW hi n) [it] it (λi h=>IsRangeIter h it (hi+(i:Nat)*(-1)) ((n:Int)-(i:Nat)) (-1)) where
 mem:=by simp
 obj:=λi h a b d=>by
  have e:b=it:=by simpa using d
  subst e
  exact⟨_,a,λv z=>by
   have D:Data.fields _=Data.cell v:=z;cases D⟩
 keep:=λi h j a k=>k it (by simp) _ a
 item:=by
  intro X p hw q m i c s B H E I g a l;subst p hw q;obtain⟨A,y,J,x,u,r⟩:=g it (by simp);have W:=Walks.range (prog:=X.prog) (w:=X.w) (I.ok.hd m) it hi (-1) n;refine W.item i s _ _ l a λv j C G f F=>?_;obtain⟨t,rfl⟩:=G;have M:Inv X c B H {s with heap:=j,toks:=C}:=I.turned (λb o d e=>F b o (by simpa using d) e) A y x u r;refine⟨_,Z,Ei (s:={s with heap:=j,toks:=C}) (n:= "range_iterator") f rfl rfl (by decide) ⟨.int (hi-i),H,M,⟨t,?_⟩,⟨Z,Z⟩,f,λb d=>(g b d).1⟩⟩;congr 1;lia
 done:=by
  intro X p hw q m i c s B H E I g a l;subst p hw q;obtain⟨A,y,J,x,u,r⟩:=g it (by simp);exact wpAny_pyNext_range_end (I.ok.hd m) a (by have:n<=i:=l;lia) λj L=>⟨Z,I.turned (t':=s.toks) (λb o d e=>L b o d e) A y x u r⟩
 self:=λ_ _ _ _ _ a h=>wpAny_pyIter_rangeiter a h
theorem Lz{hi:Int}{D:Ends}(d:Nat->St->Hp->Prop)(l:d 0 σ H)(hs:∀i σ H,i<n->d i σ H->g (.int (hi-i)) σ H λa H2=>tb {D with nx:=d (i+1),ct:=d (i+1),bk:=D.nx} a H2)(k:∀σ H,d n σ H->D.nx σ H):
 ∃W:Nat->Nat->St->Hp->Prop,(∃m,W 0 m σ H) /\ ∀i m σ H,W i m σ H ->
  ((WW hi n).stop i H/\D.nx σ H)\/((WW hi n).go i H /\ ∃N:St->Hp->Prop,(∀b H',N b H' -> ∃f,f<m/\W (i+1) f b H') /\ ∀x H',(WW hi n).yld i H x H'->g x σ H' λa H2=>tb {D with nx:=N,ct:=N,bk:=D.nx} a H2):=by
 refine⟨λi m σ H=>m=n-i/\i<=n/\d i σ H,⟨n,by simp,Nat.zero_le _,l⟩,?_⟩;rintro i m σ H ⟨rfl,j,p⟩
 by_cases c:i<n
 .refine .inr ⟨c,d (i+1),λb H' h=>⟨n-(i+1),by lia,Z,c,h⟩,λx H' y=>?_⟩
  obtain⟨e,y⟩:=y;subst e y;exact hs i σ _ c p
 .have e:i=n:=by lia
  subst e;exact .inl ⟨aaw _,k σ H p⟩
theorem J3:bootBuiltins "reversed" = some (.type "reversed"):=by kernel_rfl
mutual
theorem Dat.same(k:Same H H'):∀(d:PyData){v:V},Dat H v d->Dat H' v d
 | .none,_,h=>by simp only[Dat] at h ⊢;exact h
 | .bool _,_,h=>by simp only[Dat] at h ⊢;exact h
 | .int _,_,h=>by simp only[Dat] at h ⊢;exact h
 | .str _,_,h=>by simp only[Dat] at h ⊢;exact h
 | .list ds,_,h=>by simp only[Dat] at h ⊢;obtain⟨a,vs,e,q,r⟩:=h;exact⟨a,vs,e,k _ _ q,aR.same k ds r⟩
 | .tuple ds,_,h=>by simp only[Dat] at h ⊢;obtain⟨a,vs,e,q,r⟩:=h;exact⟨a,vs,e,k _ _ q,aR.same k ds r⟩
 | .dict _,_,h=>by simp only[Dat] at h
theorem aR.same(k:Same H H'):∀(ds:List PyData){vs:List V},aR H vs ds->aR H' vs ds
 | [],[],_=>by simp only[aR]
 | d::ds,v::vs,h=>by simp only[aR] at h ⊢;exact⟨Dat.same k d h.1,aR.same k ds h.2⟩
 | _::_,[],h=>by simp only[aR] at h
 | [],_::_,h=>by simp only[aR] at h
end
theorem qR(K:zzy):W.kitOne K (.type "tuple") (.type "list")=some false:=by kernel_rfl
theorem lR(K:zzy):W.kitOne K (.type "list") (.type "tuple")=some false:=by kernel_rfl
section
variable{Q:VK}{rest:St}{H1:Hp}
theorem GF{f:Nat->Option PyData}(a:∀i d,f i=some d->CK d=true):∀l:List Nat,qT (l.filterMap f)=true
 | []=>rfl
 | i::l=>by
   rw[List.filterMap_cons];cases e:f i with
   | none=>exact GF a l
   | some d=>simp only[qT,a i d e,GF a l,Bool.and_self]
theorem Rp(f:Nat->Option PyData)(p:∀i d,f i=some d->CK d=true)(q:H1 D=none)(t:bG K H1 a xs)(B:xs.length<=100000)(hs:∀i x H (G:Hp->Prop) (F:VK),xs[i]?=some x->Same H1 H->(∀H',Same H H'->f i=none->G H')->(∀y d H',Same H H'->f i=some d->Dat H' y d->F y H')->tc (some x::rest) H λb m=>if b=true then te (some x::rest) m F else G m)(w:∀H vs,Same H1 H->H D=some (.lst vs)->aR H vs ((List.range xs.length).filterMap f)->Q (.ref D) H):jk (ZR K a) (bU 0) tc te Q D (none::rest) H1:=by
 refine jE (K:=K) (xs:=xs) (λi g H=>(∃v,g=v::rest)/\Same H1 H /\ ∃vs,H D=some (.lst vs)/\aR H vs ((List.range i).filterMap f)) ⟨⟨none,Z⟩,aH q,[],ak,by simp[aR]⟩ (λi g H _ ⟨_,c,_⟩=>c.sqL _ _ t) ?_ (λg H ⟨_,c,vs,e,d⟩=>w H vs c e d);rintro i x g H o ⟨⟨v,rfl⟩,c,vs,e,d⟩;have u:i<xs.length:=(aak.mp o).1;have im:=GF p (List.range i);refine hs i x H _ _ o c (λm l k=>⟨⟨_,Z⟩,c.trans l,vs,l _ _ e,?_⟩) (λy A r j k z=>?_)
 .rw[d8,k]
  simpa using aR.keep l.tups _ im d
 .have C:vs.length<=i:=by rw[d.length];exact ur f i
  have s:Kp D r (upd r D (.lst (vs++[y]))):=Kp.set;have n:=s.tups (j _ _ e);refine⟨vs,j _ _ e,?_,⟨_,Z⟩,(c.trans j).newly q,vs++[y],ak,?_⟩
  .rw[sizeLine_eq];lia
  .rw[d8,k]
   exact iW (aR.keep (λa xs h=>n _ _ (j.tups _ _ h)) _ im d) (Dat.keep n _ (p i A k) z)
end
inductive Ud(x y:V)(H:Hp)(Q:VK):Prop|m:∀a b xs ys,x=.ref a->y=.ref b->H a=some (.tup xs)->H b=some (.tup ys)->xs.length+ys.length<=sizeLine->(∀p H',H' p=some (.tup (xs++ys))->Same H H'->Q (.ref p) H')->Ud x y H Q
theorem UL:sZ X (binaryOp .Add) Ud:=by
 intro m s P H x y v u Q I M L h;obtain⟨a,b,J,G,rfl,rfl,D,C,t,q⟩:=h;cases M;cases L;obtain⟨d,j,r,_⟩:=I.tuple (cD.of D);obtain⟨c,i,p,_⟩:=I.tuple (cD.of C)
 by_cases k:d=[]
 .obtain⟨⟨cls,O,data,K⟩,w,B,n,A⟩:=id r
  obtain⟨⟨E,l,data2,g⟩,e,f,N,hd2⟩:=id p;simp only at B A f hd2;subst B A f hd2
  exact concat_meets ⟨_,w,Z⟩ ⟨_,e,Z⟩ noFill_tuple_add seq_tuple_add F.slot_tuple_add F.entry_tuple_add (F.args_tuple_add_2 _ _)
   (tuple_addW0 a b d.toArray c.toArray n N O l K g (by simp[k])) ⟨w,e,⟨.ref b,H,I,Z,q b H (by rw[C,j.Oq.mp k];rfl) (Same.refl _)⟩⟩
 refine HT.ZD r p k (λz=>⟨.ref a,H,I,Z,q a H (by rw[D,i.Oq.mp z,List.append_nil]) (Same.refl _)⟩) (λz=>?_) (by rw[←j.length,←i.length];exact t);have fr:=I.hok.fresh (aaw s.heap.objs.size);refine⟨.ref s.heap.objs.size,_,I.laid (t':=s.toks) (o:= .tup (J++G)) (λb R q=>aan _ q) (aaw _) ?_,Z,q _ _ ak (aH fr)⟩;exact⟨by rw[abf];exact t,_,j.append i,IsTup.new _ _⟩
def agR(K:zzy)(c b:TE):TE:=λσ H Q=>c σ H λx H1=>b σ H1 λk H2=>∃a xs,x=.ref a/\k=.int (-1)/\bG K H2 a xs /\ ∀p,H2 p=none->Q (.ref p) (upd H2 p (.lst xs.reverse))
theorem Ig:∀{xs:List V}{us:zzt},Vals xs us->Vals xs.reverse us.reverse
 | [],_,.nil=> .nil
 | _::_,_,.cons r rs=>by
   rw[List.reverse_cons,List.reverse_cons];exact(Ig rs).append (.cons r .nil)
section
variable{st:Expr}
theorem Ut(B:X.K=K)(he:PE X e te)(A:PE X st tk):PE X (.Subscript e (.Slice none none (some st) p2) pos) (agR K te tk):=by
 subst B;intro c s f H Q I h;refine Subscript_ (dG (he c s f H _ I h) λv n g=>?_);obtain⟨x,H1,D,t,q1⟩:=g;refine wpAny_Slice ?_;rw[evalPart_none,evalPart_some];refine aay (aay ?_);refine dG (A c n f H1 _ D q1) λF d g=>?_;obtain⟨k,E,C,p,q3⟩:=g;obtain⟨a,m,rfl,rfl,z,q⟩:=q3;cases t;obtain⟨tt,rfl⟩:=p;have i:Inv X c f E {d with heap:=d.heap.push {cls:= .type "slice",data:= .fields #[.none,.none,.int (-1) tt]}}:=C.kept (t':=d.toks) λb u q=>aan _ q;obtain⟨w,r,j,y⟩:=i.list z;have l:=r.length;show wpAny (model X.prog X.w) X.A (subscriptTail e (.Slice none none (some st) p2) (.ref a) (.ref d.heap.objs.size)) (EP X c f Q) X.xe {d with heap:=d.heap.push {cls:= .type "slice",data:= .fields #[.none,.none,.int (-1) tt]}};refine tail_any (ops:=[.ref a,.ref d.heap.objs.size]) (T:= "list") j.isList.typeIs slot_list_getitem.lookup ?_ (by with_unfolding_all rfl);refine wpAny_getItem_list_slice j.isList (Heap.IsSliceOf.new ..) .none .none (.int (-1) tt) (by decide) ?_ (by rw[aa8]<;>lia);rw[W.krv_pick];refine⟨.ref (d.heap.push {cls:= .type "slice",data:= .fields #[.none,.none,.int (-1) tt]}).objs.size,_,i.laid (t':=d.toks) (o:= .lst m.reverse) (λb u q=>aan _ q) (aaw _) ?_,Z,q _ (i.hok.fresh (aaw _))⟩;exact⟨by rw[List.length_reverse];exact y,_,0,Ig r,aao _ rfl⟩
end
mutual
theorem Dat.fn:∀(d e:PyData){v:V},Dat H v d->Dat H v e->d=e
 | .none,e,v,h,g=>by cases e<;>simp only[Dat] at h g<;>first |rfl|(subst h;first |(obtain⟨_,_,z,_⟩:=g;cases z;done)|(cases g;done))
 | .bool _,e,v,h,g=>by cases e<;>simp only[Dat] at h g<;>first |(subst h;first |(injection g with g;rw[g];done)|(obtain⟨_,_,z,_⟩:=g;cases z;done)|(cases g;done))
 | .int _,e,v,h,g=>by cases e<;>simp only[Dat] at h g<;>first |(subst h;first |(injection g with g;rw[g];done)|(obtain⟨_,_,z,_⟩:=g;cases z;done)|(cases g;done))
 | .str _,e,v,h,g=>by cases e<;>simp only[Dat] at h g<;>first |(subst h;first |(injection g with g;rw[g];done)|(obtain⟨_,_,z,_⟩:=g;cases z;done)|(cases g;done))
 | .list ds,.list es,v,h,g=>by
   simp only[Dat] at h g;obtain⟨a,vs,rfl,f,i⟩:=h;obtain⟨b,j,e,c,db⟩:=g;injection e with e
   subst e;rw[f] at c;injection c with c
   injection c with c
   subst c;rw[aR.fn ds es i db]
 | .tuple ds,.tuple es,v,h,g=>by
   simp only[Dat] at h g;obtain⟨a,vs,rfl,f,i⟩:=h;obtain⟨b,j,e,c,db⟩:=g;injection e with e
   subst e;rw[f] at c;injection c with c
   injection c with c
   subst c;rw[aR.fn ds es i db]
 | .list ds,.tuple es,v,h,g=>by
   simp only[Dat] at h g;obtain⟨a,vs,rfl,f,i⟩:=h;obtain⟨b,j,e,c,db⟩:=g;injection e with e
   subst e;rw[f] at c;injection c with c
   cases c
 | .tuple ds,.list es,v,h,g=>by
   simp only[Dat] at h g;obtain⟨a,vs,rfl,f,i⟩:=h;obtain⟨b,j,e,c,db⟩:=g;injection e with e
   subst e;rw[f] at c;injection c with c
   cases c
 | .list ds,.none,v,h,g=>by simp only[Dat] at h g;obtain⟨a,vs,rfl,_⟩:=h;cases g
 | .list ds,.bool _,v,h,g=>by simp only[Dat] at h g;obtain⟨a,vs,rfl,_⟩:=h;cases g
 | .list ds,.int _,v,h,g=>by simp only[Dat] at h g;obtain⟨a,vs,rfl,_⟩:=h;cases g
 | .list ds,.str _,v,h,g=>by simp only[Dat] at h g;obtain⟨a,vs,rfl,_⟩:=h;cases g
 | .tuple ds,.none,v,h,g=>by simp only[Dat] at h g;obtain⟨a,vs,rfl,_⟩:=h;cases g
 | .tuple ds,.bool _,v,h,g=>by simp only[Dat] at h g;obtain⟨a,vs,rfl,_⟩:=h;cases g
 | .tuple ds,.int _,v,h,g=>by simp only[Dat] at h g;obtain⟨a,vs,rfl,_⟩:=h;cases g
 | .tuple ds,.str _,v,h,g=>by simp only[Dat] at h g;obtain⟨a,vs,rfl,_⟩:=h;cases g
 | .list ds,.dict _,v,h,g=>by simp only[Dat] at g
 | .tuple ds,.dict _,v,h,g=>by simp only[Dat] at g
 | .dict _,_,v,h,g=>by simp only[Dat] at h
theorem aR.fn:∀(ds es:List PyData){vs:List V},aR H vs ds->aR H vs es->ds=es
 | [],[],_,_,_=>rfl
 | d::ds,e::es,v::vs,h,g=>by
   simp only[aR] at h g;rw[Dat.fn d e h.1 g.1,aR.fn ds es h.2 g.2]
 | [],_::_,[],_,g=>by simp only[aR] at g
 | [],_::_,_::_,h,_=>by simp only[aR] at h
 | _::_,[],[],h,_=>by simp only[aR] at h
 | _::_,[],_::_,_,g=>by simp only[aR] at g
 | _::_,_::_,[],h,_=>by simp only[aR] at h
end
section
variable{e1 e2 l:Expr}{t1 t2:TE}
end
end L2
namespace L2
open PySem PySem.Spec PyProof.Rows PySem.Builtin PySem.Builtin.Str
def Its(x:Str):It:=⟨λi _=>i<x.cps.size,λi H v H'=>H'=H /\ ∃c,x.cps[i]?=some c/\v=.str ⟨#[c]⟩,λi _=>x.cps.size<=i⟩
theorem Sx(x:Str)(t:Tok)(it:Addr):Turn P w K tg (Its x) [it] it (λi h=>i<=x.cps.size/\(h.IsStrIter it "str_ascii_iterator" x t i\/h.IsStrIter it "str_iterator" x t i)) where
 mem:=by simp
 obj:=λi h a b f=>by
  have e:b=it:=by simpa using f
  subst e;rcases a.2 with ⟨o,e,c,d⟩|⟨o,e,c,d⟩
  .exact⟨o,e,λv z=>by rw[d] at z;cases z⟩
  .exact⟨o,e,λv z=>by rw[d] at z;cases z⟩
 keep:=λi h l a k=>⟨a.1,a.2.imp (λ⟨o,e,r⟩=>⟨o,k it (by simp) o e,r⟩) (λ⟨o,e,r⟩=>⟨o,k it (by simp) o e,r⟩)⟩
 item:=by
  intro X J hw L G i j s B H E I n a F;subst J hw L;have D:i<x.cps.size:=F;have m:x.cps[i]?=some x.cps[i]:=by simp[D]
  obtain⟨A,y,O,u,q,p⟩:=n it (by simp);rcases a.2 with a|a
  .refine wpAny_pyNext_ascii_item a m λl g C=>?_
   have N:Inv X j B H {s with heap:=l,toks:=s.toks+1}:=I.turned (t':=s.toks+1) (λb o f e=>(C.2 b f).trans e) A y u q p;obtain⟨o,e,c,d⟩:=id g;exact⟨_,Z,Ei (s:={s with heap:=l,toks:=s.toks+1}) e c d (by decide) ⟨.str ⟨#[x.cps[i]]⟩,H,N,⟨_,Z⟩,⟨Z,_,m,Z⟩,⟨D,.inl g⟩,λb f=>(n b f).1⟩⟩
  .refine wpAny_pyNext_wide_item a m λl g C=>?_
   have N:Inv X j B H {s with heap:=l,toks:=s.toks+1}:=I.turned (t':=s.toks+1) (λb o f e=>(C.2 b f).trans e) A y u q p;obtain⟨o,e,c,d⟩:=id g;exact⟨_,Z,Ei (s:={s with heap:=l,toks:=s.toks+1}) e c d (by decide) ⟨.str ⟨#[x.cps[i]]⟩,H,N,⟨_,Z⟩,⟨Z,_,m,Z⟩,⟨D,.inr g⟩,λb f=>(n b f).1⟩⟩
 done:=by
  intro X J hw L G i j s B H E I n a F;subst J hw L;have m:x.cps[i]?=none:=by simpa using (show x.cps.size<=i from F)
  obtain⟨A,y,O,u,q,p⟩:=n it (by simp);rcases a.2 with a|a
  .exact wpAny_pyNext_ascii_end (I.ok.hd G) a m λl M=>⟨Z,I.turned (t':=s.toks) (λb o f e=>M b o f e) A y u q p⟩
  .exact wpAny_pyNext_wide_end (I.ok.hd G) a m λl M=>⟨Z,I.turned (t':=s.toks) (λb o f e=>M b o f e) A y u q p⟩
 self:=λ_ _ _ _ _ a h=>a.2.elim (λa=>wpAny_pyIter_striter_ascii a h) (λa=>wpAny_pyIter_striter_wide a h)
def aiy(b:TE):TI:=λσ H R=>b σ H λx H1=>∃a,x=.str a/\R (Its a) H1
theorem abq{l:Expr}(m:PE X l tl):PI X tg l (aiy tl):=by
 intro d s i H R I h;refine dG (m d s i H _ I h) λv c p=>?_;obtain⟨x,H1,g,k,q1⟩:=p;obtain⟨a,rfl,q⟩:=q1;obtain⟨t,rfl⟩:=k
 have f:∀o,(c.heap.push o).IsStrIter c.heap.objs.size "str_ascii_iterator" a t 0\/(c.heap.push o).IsStrIter c.heap.objs.size "str_iterator" a t 0->PIE X d i tg R (.ref c.heap.objs.size) {c with heap:=c.heap.push o}:=by
  intro o j;refine⟨c.heap.objs.size,[c.heap.objs.size],_,_,H1,Z,g.kept (t':=c.toks) λb o e=>aan _ e,Sx a t _,⟨Nat.zero_le _,j⟩,λb n=>?_,q⟩;have e:b=c.heap.objs.size:=by simpa using n
  subst e;exact g.yS (aaw _) (g.hok.fresh (aaw _))
 cases ha:a.cps.all (· < 128)
 .exact wpAny_pyIter_wide ha (f _ (.inr ⟨_,aao _ rfl,Z,Z⟩))
 .exact wpAny_pyIter_ascii ha (f _ (.inl ⟨_,aao _ rfl,Z,Z⟩))
section
variable{Q:VK}{rest:St}{H1:Hp}
theorem Rn(f:Nat->St->Hp->Prop)(r:f 0 σ0 (upd H1 D (.lst [])))(hs:∀i c σ H,x.cps[i]?=some c->f i σ H->g (.str ⟨#[c]⟩) σ H λa H2=>tc a H2 λb k=>
   if b=true then te a k λy j=>∃d,j D=some (.lst d)/\d.length<sizeLine/\f (i+1) a (upd j D (.lst (d++[y]))) else f (i+1) a k)(o:∀σ H,f x.cps.size σ H->Q (.ref D) H):jk (Its x) g tc te Q D σ0 H1:=by
 refine⟨λi m σ H=>m=x.cps.size-i/\i<=x.cps.size/\f i σ H,⟨x.cps.size,by simp,Nat.zero_le _,r⟩,?_⟩;rintro i m σ H ⟨rfl,t,p⟩
 by_cases h:i<x.cps.size
 .refine .inr ⟨h,f (i+1),λl s n=>⟨x.cps.size-(i+1),by lia,Z,h,n⟩,λy s e=>?_⟩
  obtain⟨e,c,q,rfl⟩:=e;subst e;exact hs i c σ _ q p
 .have e:i=x.cps.size:=by lia
  subst e;exact .inl ⟨aaw _,o σ H p⟩
theorem Rm(f:Nat->Option V)(m:H1 D=none)(p:x.cps.size<=100000)(hs:∀i c H (G:Hp->Prop) (F:VK),x.cps[i]?=some c->Same H1 H->(∀H',Same H H'->f i=none->G H')->(∀y H',Same H H'->f i=some y->F y H')->tc (some (.str ⟨#[c]⟩)::rest) H λb h=>if b=true then te (some (.str ⟨#[c]⟩)::rest) h F else G h)(o:∀H,Same H1 H->H D=some (.lst ((List.range x.cps.size).filterMap f))->Q (.ref D) H):jk (Its x) (bU 0) tc te Q D (none::rest) H1:=by
 refine Rn (λi d H=>(∃v,d=v::rest)/\Same H1 H/\H D=some (.lst ((List.range i).filterMap f))) ⟨⟨none,Z⟩,aH m,ak⟩ ?_ (λd H ⟨_,a,e⟩=>o H a e);rintro i c d H l ⟨⟨v,rfl⟩,a,e⟩;have n:i<x.cps.size:=(Array.getElem?_eq_some_iff.mp l).1;refine hs i c H _ _ l a (λh k g=>⟨⟨_,Z⟩,a.trans k,by rw[k _ _ e,d8,g];simp⟩) (λy q j g=>?_);refine⟨_,j _ _ e,?_,⟨_,Z⟩,(a.trans j).newly m,?_⟩
 .have:=ur f i
  rw[sizeLine_eq];lia
 .rw[ak,d8,g];rfl
end
end L2
namespace L2
open PySem PySem.Spec PyProof.Rows
section
variable(P:Program)(w:World)(K:zzy)(mg:zzv)(base:Heap)
def MethAt(k:Nat)(C:Addr)(m:Str)(ps:List Str)(sp:Sp):Prop:=∃f fd,bR P w K mg base iB k f fd ps sp/\Meth K C m f/\Binds K fd ps []
def mZ(k:Nat)(C:Addr)(m:Str)(ps:List Str)(sp:Sp):Prop:=∃f fd,bR P w K mg base (uG P w) k f fd ps sp/\Meth K C m f/\Binds K fd ps []
def pI(k:Nat)(C:Addr)(x:Str)(ps:List Str)(qY:List V)(sp:Sp):Prop:=∃f fd ds,bR P w K mg base iB k f fd ps sp/\Mk K C f/\mg x=some (.ref C)/\Binds K fd ps ds/\Vals qY ds
def wz(k:Nat)(C:Addr)(x:Str)(ps:List Str)(qY:List V)(sp:Sp):Prop:=∃f fd ds,bR P w K mg base (uG P w) k f fd ps sp/\Mk K C f/\mg x=some (.ref C)/\Binds K fd ps ds/\Vals qY ds
def ZQ(k:Nat)(C:Addr)(x:Str)(ps:List Str)(a:Str)(sp:Sp):Prop:=∃f fd,bR P w K mg base (uG P w) k f fd ps sp/\Mk K C f/\mg x=some (.ref C) /\
 ∀(s:Shared)(us:zzt)(z:Value),K.In s.heap->(us++[z]).length=ps.length->BindsTo s fd ⟨us,[(a,z)]⟩ (ps.zip (us++[z]))
end
section
variable{mg:zzv}{m:Str}
theorem bR.calm(G:bR P w K mg base (uG P w) k f fd ps sp):bR P w K mg base iB k f fd ps (λvs H Q _=>sp vs H Q λ_ _ _=>False):=by
 refine⟨λvs H Q E q=>G.len vs H Q _ q,λA a s H args d vs Q E i j c g h=>?_⟩;refine codeAny_mono (G.run A a s H args d vs Q (λ_ _ _=>False) i j c g h) λres l b=>?_
 match res,b with
 | .error ev,b=>
   obtain⟨e,cls,m,n,_,_,_,_,_,_,_,_,z⟩:=b;exact z.elim
 | .ok (.ret u),b=>exact b
theorem mZ.calm(F:mZ P w K mg base k C m ps sp):MethAt P w K mg base k C m ps (λvs H Q _=>sp vs H Q λ_ _ _=>False):=by
 obtain⟨f,a,G,r⟩:=F;exact⟨f,a,G.calm,r⟩
theorem wz.calm(F:wz P w K mg base k C x ps qY sp):pI P w K mg base k C x ps qY (λvs H Q _=>sp vs H Q λ_ _ _=>False):=by
 obtain⟨f,a,b,G,r⟩:=F;exact⟨f,a,b,G.calm,r⟩
end
section
variable{m:Str}{o:Expr}{t:TA}{p:Pos}{E:St->XK}
theorem cL{pl:Sem Bool}(M:MethAt X.prog X.w X.K X.mg X.base k C m ps sp)(c:Cls X.K C)(g:fJ k X.A)(he:PE X o ta)(j:PA X (e::es) t)(a:starEach (e::es) X.env=(false,eval e X.env)::starEach es X.env:=by rfl)(hpl:(backTo pos (starEach es X.env)).any (·.1)=false:=by rfl)(d:eval (.Call (.Attribute o m apos) (e::es) [] pos) X.env=(do
   let b ←eval o X.env
   standAt apos.atName
   let (f,first) ←holding [b] (getMethod b m pl)
   callWith pos f first (backTo pos (starEach (e::es) X.env)) (backToKw pos (keywordEach [] X.env))):=by rfl):
 PE X (.Call (.Attribute o m apos) (e::es) [] pos) (Im C m sp [] E0 ta t):=by
 obtain⟨f,l,G,h,i⟩:=M;exact Yt he c h G g i .nil Jc j a hpl d
theorem cu{pl:Sem Bool}(M:MethAt X.prog X.w X.K X.mg X.base k C m ps sp)(c:Cls X.K C)(d:fJ k X.A)(he:PE X o ta)(b:eval (.Call (.Attribute o m apos) [] [] pos) X.env=(do
   let a ←eval o X.env
   standAt apos.atName
   let (f,first) ←holding [a] (getMethod a m pl)
   callWith pos f first (backTo pos (starEach [] X.env)) (backToKw pos (keywordEach [] X.env))):=by rfl):
 PE X (.Call (.Attribute o m apos) [] [] pos) (Im C m sp [] E0 ta uM):=by
 obtain⟨f,h,G,e,g⟩:=M;exact Uw he c e G d g .nil Jc b
inductive Il(C:Addr)(m:Str)(sp:Sp)(E:St->XK)(t:TA)(σ:St)(Q:VK)(x:V)(H1:Hp):Prop|m:∀a dx fs,x=.ref a->H1 a=some (.ins C dx fs)->fs.lookup m=none->(t σ H1 λvs H2=>sp (x::vs) H2 Q (E σ))->Il C m sp E t σ Q x H1
def aa1(C:Addr)(m:Str)(sp:Sp)(E:St->XK)(a:TE)(t:TA):TE:=λσ H Q=>a σ H λx H1=>Il C m sp E t σ Q x H1
theorem X_{Q:VK}(G:bR X.prog X.w X.K X.mg X.base (uG X.prog X.w) k f fd ps sp)(d:X.ex=[])(R:Rz X E)(e:fJ k X.A)(g:Binds X.K fd ps [])(I:Inv X pins σ H s)(r:Vals vs us)(q:sp vs H Q (E σ)):wpAny (model X.prog X.w) X.A (call (.ref f) us) (EP X pins σ Q) X.xe s:=by
 have b:us.length=ps.length:=by rw[←r.length];exact G.len _ _ _ _ q
 have c:=g s us I.oH (by rw[List.append_nil];exact b);rw[List.append_nil] at c;refine wpAny_call (codeAny_mono (G.run X.A X.stack s H ⟨us,[]⟩ us vs Q (E σ) e I.env0 c r q) λres h a=>?_)
 match res,a with
 | .error ev,a=>exact Oe d R I a
 | .ok (.ret u),a=>exact I.after a
theorem vq{pl:Sem Bool}(M:mZ X.prog X.w X.K X.mg X.base k C m ps sp)(c:Cls X.K C)(y:X.ex=[])(R:Rz X E)(A:fJ k X.A)(he:PE X o ta)(D:PA X (e::es) t)(d:starEach (e::es) X.env=(false,eval e X.env)::starEach es X.env:=by rfl)(hpl:(backTo pos (starEach es X.env)).any (·.1)=false:=by rfl)(z:eval (.Call (.Attribute o m apos) (e::es) [] pos) X.env=(do
   let i ←eval o X.env
   standAt apos.atName
   let (f,first) ←holding [i] (getMethod i m pl)
   callWith pos f first (backTo pos (starEach (e::es) X.env)) (backToKw pos (keywordEach [] X.env))):=by rfl):
 PE X (.Call (.Attribute o m apos) (e::es) [] pos) (aa1 C m sp E ta t):=by
 obtain⟨f,L,G,j,B⟩:=M;intro b s g H Q I h;refine W.methodCall_KW (pl:=pl) (dG (he b s g H _ I h) λu v ⟨x,H1,p,w,a,N,K,ex,F,l,q⟩=>?_) z;subst ex;obtain rfl:u=Value.ref a:=w;refine uq p F c j l ?_;refine W.callWith_K (first:=[.ref a]) (h₀:=X.base) I.ok.mod.VB j.kp (dG (D pos b v g H1 _ p q) λus J ⟨vs,H2,n,r,q2⟩=>⟨n.oH,?_⟩) d hpl;exact X_ (us:= .ref a::us) (vs:= .ref a::vs) G y R A B n (.cons rfl r) q2
theorem jT(M:pI X.prog X.w X.K X.mg X.base k C x ps qY sp)(a:fJ (k+1) X.A)(c:Gl X x)(h:PA X (e::es) t)(hdb:(x==("__debug__" :Str))=false:=by decide)(he:starEach (e::es) X.env=(false,eval e X.env)::starEach es X.env:=by rfl)(hpl:(backTo pos (starEach es X.env)).any (·.1)=false:=by rfl):
 PE X (.Call (.Name x p) (e::es) [] pos) (Z5 C sp qY E0 t):=by
 obtain⟨f,i,j,G,mk,b,g,d⟩:=M;exact Yu mk G a c b g d Jc h hdb he hpl
end
end L2
namespace L2
open PySem PySem.Spec PyProof.Rows PySem.Builtin PySem.Builtin.Str
section
variable{o:Expr}{f:Str}
theorem aZ(b:X.K=K)(he:PE X e ta)(a:attributeBase e f X.env (eval e X.env)=eval e X.env):PE X (.Attribute e f pos) (adM K ta f):=by subst b;exact abv he a
theorem cT(c:X.K=K)(b:PE X o ta)(a:PE X value tv)(hs:swapsWith value (some (.Attribute o f pos')) pos.line X.env=pure false):PS X (.Assign [.Attribute o f pos'] value pos) (adZ K ta tv f):=by subst c;exact abn b a hs
theorem Bl(d:X.K=K)(c:PE X o ta)(b:PE X value tv)(a:afm X op rd):PS X (.AugAssign (.Attribute o f tpos) op value pos) (NQ K ta tv rd f):=by subst d;exact Qq c b a
def ad5:V->List V->Hp->VK->Prop:=λx vs H Q=>∃(a y:Str) (i:Nat) (r:List Nat),x=.str a/\vs=[.str y]/\occurrences a y 0 a.length 1=i::r/\Q (.int i) H
theorem DY:MtR X "str.index" ad5:=by
 intro b s j H x k v l Q I d e h;obtain⟨a,y,i,r,rfl,rfl,g,q⟩:=h;obtain⟨t,rfl⟩:=d;obtain⟨u,rfl,f⟩:=e.one;obtain⟨c,rfl⟩:=f;exact call_meets F.slot_str_index (typeIs_str _ _ _) F.entry_str_index (F.args_str_index_2 _ _) (gives_str_index a y t c i r g).meets ⟨.int i,H,I.tok _,⟨_,Z⟩,q⟩
end
structure ZS(K:zzy)(x qual:Str)(st:Stmt)(ds:zzt)(f:Addr)(fd:zzs):Prop where
 ex:∃(oc:Value) (od:Option Addr) (T:Addr) (kV doc pm:Value) (an:Option Addr) (cdv ct:Value) (osl:Array (Option Value)) (tc:Value) (td:Option Addr) (tn:Nat) (SN:Array (Option Value)),
  fd=W.fnOf x qual (d9 st) (gH st) (aP st) (.ref T) kV doc pm an cdv ct/\K.lookup f=some ⟨oc,od,.func fd,osl⟩/\W.codeIn K cdv qual=true/\K.lookup T=some ⟨tc,td,.seq ds.toArray tn,SN⟩
 kp:W.keepIn K (.ref f)=true
section
variable{mg:zzv}
theorem ZS.okX{ds:zzt}(F:ZS K x qual st ds f fd)(S:aY N ps (aP st))(len:∀vs H Q E,sp vs H Q E->vs.length=ps.length)(a:∀(cdv:Value)(A:Around)(outer:List Env)(s:Shared)(H:Hp)(vs:List V)(Q:VK)(E:XK),fJ k (A.deeper (envOfC qual (aP st) s.heap.objs.size f cdv))->sp vs H Q E ->
   Rz (pX (uG P w) P w K mg base N qual (aP st) f cdv A outer s H E) (λ_=>E) ->
   ∃t,Kf (pX (uG P w) P w K mg base N qual (aP st) f cdv A outer s H E) (gH st) t/\t {nx:=λ_ H'=>Q .non H',rt:=Q} (start N vs) H):bR P w K mg base (uG P w) (k+1) f fd ps sp:=by
 obtain⟨m,l,T,kV,doc,pm,an,cdv,n,d,j,i,h,o,rfl,e,c,_⟩:=F.ex;exact V8 e c S len λA outer s H vs Q E g b=>a cdv A outer s H vs Q E g b IW
end
section
variable{kn:Str}{ke:Expr}{t:TA}{p kpos:Pos}{E:St->XK}
end
end L2
namespace L2
open PySem PySem.Spec PyProof.Rows
section
variable{prog:Program}{ep:Nat}{od:Obj}{es:Array DictEntry}
end
section
variable{o:Obj}{Q:VK}{rest:St}{H1:Hp}
end
section
variable{prog:Program}
end
end L2
namespace L2
open PySem
abbrev Tg:=Addr->List Nat
def aQ(τ:Tg)(x:Addr)(t:List Nat):Tg:=λy=>if y=x then t else τ y
theorem bF{τ:Tg}{x:Addr}{t:List Nat}:aQ τ x t x=t:=ac_ rfl
theorem aU{τ:Tg}{x y:Addr}{t:List Nat}(h:y≠x):aQ τ x t y=τ y:=ac9 h
def sU(τ:Tg)(H:Hp):Prop:=∀x,H x=none->τ x=[]
theorem sU.dom{τ:Tg}(u:sU τ H)(d:∀x,H' x=none->H x=none):sU τ H':=λx e=>u x (d x e)
theorem sU.same{τ:Tg}(u:sU τ H)(k:Same H H'):sU τ H':=u.dom λ_ e=>k.free e
theorem sU.claim{τ:Tg}{t:List Nat}(u:sU τ H)(k:Same H H')(a:∃o,H' p=some o):sU (aQ τ p t) H':=λx e=>by
 have n:x≠p:=λz=>by
  obtain⟨o,b⟩:=a;rw[z,b] at e;cases e
 rw[aU n];exact u.same k x e
theorem fj{τ:Tg}{s t:List Nat}(d:τ a=s)(c:τ b=t)(h:s≠t):a≠b:=λe=>h (by rw[←d,←c,e])
structure jH(i:Nat)(τ:Tg)(H H':Hp):Prop where
 keep:∀x o,H x=some o->(τ x).head?≠some i->H' x=some o
 tup:∀x xs,H x=some (.tup xs)->H' x=some (.tup xs)
 dom:∀x,H' x=none->H x=none
theorem jH.of_same{τ:Tg}(k:Same H H'):jH i τ H H':=⟨λx o e _=>k _ _ e,λx a e=>k _ _ e,λx e=>k.free e⟩
theorem jH.refl(i:Nat)(τ:Tg)(H:Hp):jH i τ H H:= .of_same (Same.refl _)
theorem jH.trans{τ:Tg}{H1 H2:Hp}(a:jH i τ H H1)(b:jH i τ H1 H2):jH i τ H H2:=⟨λx o e n=>b.keep _ _ (a.keep _ _ e n) n,λx c e=>b.tup _ _ (a.tup _ _ e),λx e=>a.dom _ (b.dom _ e)⟩
theorem jH.set{τ:Tg}{x:Addr}{o u:HO}(b:(τ x).head?=some i)(a:H x=some o)(c:∀xs,o ≠ .tup xs):jH i τ H (upd H x u):=by
 refine⟨λy v e n=>?_,λy xs e=>?_,λy e=>?_⟩
 .have z:y≠x:=λz=>n (by rw[z];exact b)
  rw[aF z];exact e
 .rw[aF (dD e a λz=>c xs z.symm)];exact e
 .by_cases z:y=x
  .rw[z,ak] at e;cases e
  .rw[aF z] at e;exact e
theorem jH.un{τ:Tg}(a:jH i τ H H')(u:sU τ H):sU τ H':=u.dom a.dom
structure Mv(i:Nat)(τ:Tg)(H:Hp)(τ':Tg)(H':Hp):Prop where
 keep:∀x o,H x=some o->τ x=[0]\/(τ x).head?=some i->H' x=some o/\τ' x=τ x
 tup:∀x xs,H x=some (.tup xs)->H' x=some (.tup xs)
theorem Mv.of_same{τ:Tg}(k:Same H H'):Mv i τ H τ H':=⟨λx o e _=>⟨k _ _ e,Z⟩,λx a e=>k _ _ e⟩
theorem Mv.tags{τ a:Tg}(k:Same H H')(t:∀x o,H x=some o->a x=τ x):Mv i τ H a H':=⟨λx o e _=>⟨k _ _ e,t x o e⟩,λx b e=>k _ _ e⟩
theorem Mv.claim{τ:Tg}{t:List Nat}(k:Same H H')(a:H p=none):Mv i τ H (aQ τ p t) H':= .tags k λx o e=>aU (aA e a)
theorem Mv.cU{τ:Tg}(k:jH j τ H H')(h:j≠i)(a:j≠0):Mv i τ H τ H':=⟨λx o e t=>⟨k.keep _ _ e (by
 rcases t with t|t
 .rw[t];intro z;exact a (abe z).symm
 .rw[t];intro z;exact h (abe z).symm),Z⟩,k.tup⟩
theorem Mv.trans{τ d c:Tg}{H1 H2:Hp}(a:Mv i τ H d H1)(b:Mv i d H1 c H2):Mv i τ H c H2:=⟨λx o e t=>by
 obtain⟨h,t1⟩:=a.keep x o e t;obtain⟨g,f⟩:=b.keep x o h (by rw[t1];exact t);exact⟨g,by rw[f,t1]⟩,λx j e=>b.tup _ _ (a.tup _ _ e)⟩
end L2
variable{τ τ' τ0 τ1 τ2:L2.Tg}
namespace Prf
open PySem L2
inductive RP where
 | num (n:Int)
 | box (b:Nat)
 deriving DecidableEq
inductive Kl where
 | one (x:RP)
 | two (p:Bool) (x y:RP)
 deriving DecidableEq
inductive Rw where
 | load (b c:Nat)
 | store (c:Nat) (e:Kl)
 | swap (b c:Nat) (e:Kl)
 | yP (b:Nat) (e:Kl)
 | say (e:Kl)
 | go (k:Nat)
 | yp (q:Bool) (e f:Kl) (k:Nat)
 deriving DecidableEq
def v7(b:Nat):Str:=⟨#[97+b]⟩
def Ds:RP->PyData
 | .num n=> .tuple [.str "number",.int n]
 | .box b=> .tuple [.str "box",.str (v7 b)]
def oJ:Kl->PyData
 | .one x=>Ds x
 | .two p x y=> .tuple [.str (if p then "plus" else "minus"),Ds x,Ds y]
def n_:Rw->PyData
 | .load b c=> .tuple [.str "load",.str (v7 b),.int c]
 | .store c e=> .tuple [.str "store",.int c,oJ e]
 | .swap b c e=> .tuple [.str "swap",.str (v7 b),.int c,oJ e]
 | .yP b e=> .tuple [.str "let",.str (v7 b),oJ e]
 | .say e=> .tuple [.str "say",oJ e]
 | .go k=> .tuple [.str "go",.int k]
 | .yp q e f k=> .tuple [.str "unless",.str (if q then "=" else "<"),oJ e,oJ f,.int k]
def Sg:RP->Prop
 | .num n=>0<=n/\n<1000
 | .box b=>b<8
def xX:Kl->Prop
 | .one x=>Sg x
 | .two _ x y=>Sg x/\Sg y
def I_(m:Nat):Rw->Prop
 | .load b c=>b<8/\c<m
 | .store c e=>c<m/\xX e
 | .swap b c e=>b<8/\c<m/\xX e
 | .yP b e=>b<8/\xX e
 | .say e=>xX e
 | .go _=>True
 | .yp _ e f _=>xX e/\xX f
theorem Ls:∀x:RP,CK (Ds x)=true
 | .num _=>rfl
 | .box _=>rfl
theorem xT:∀e:Kl,CK (oJ e)=true
 | .one x=>Ls x
 | .two p x y=>by simp only[oJ,CK,qT,Ls,Bool.and_self]
theorem GJ:∀r:Rw,CK (n_ r)=true
 | .load _ _=>rfl
 | .store _ e=>by simp only[n_,CK,qT,xT,Bool.and_self]
 | .swap _ _ e=>by simp only[n_,CK,qT,xT,Bool.and_self]
 | .yP _ e=>by simp only[n_,CK,qT,xT,Bool.and_self]
 | .say e=>by simp only[n_,CK,qT,xT,Bool.and_self]
 | .go _=>rfl
 | .yp _ e f _=>by simp only[n_,CK,qT,xT,Bool.and_self]
theorem fX{d:PyData}(h:aR H vs (d::ds)):∃v ws,vs=v::ws/\Dat H v d/\aR H ws ds:=by
 cases vs with
 | nil=>exact h.elim
 | cons v ws=>exact⟨v,ws,Z,h.1,h.2⟩
theorem kW(h:aR H vs []):vs=[]:=by
 cases vs with
 | nil=>rfl
 | cons v a=>exact h.elim
theorem aaE{x:RP}(h:Dat H v (Ds x)):∃t,v=.ref t/\H t=some (.tup (match x with | .num n=>[.str "number",.int n] | .box b=>[.str "box",.str (v7 b)])):=by
 cases x<;>simp only[Ds,Dat] at h<;>obtain⟨t,i,rfl,e,d⟩:=h<;>refine⟨t,Z,?_⟩<;>rw[e] <;>
 .obtain⟨_,_,rfl,f,a⟩:=fX d
  obtain⟨_,_,rfl,c,g⟩:=fX a;cases kW g;cases f;cases c;rfl
theorem acB{p:Bool}{x y:RP}(h:Dat H v (oJ (.two p x y))):∃t a b,v=.ref t/\H t=some (.tup [.str (if p then "plus" else "minus"),a,b])/\Dat H a (Ds x)/\Dat H b (Ds y):=by
 simp only[oJ,Dat] at h;obtain⟨t,k,rfl,e,d⟩:=h;obtain⟨_,_,rfl,i,c⟩:=fX d;obtain⟨_,_,rfl,g,j⟩:=fX c;obtain⟨_,_,rfl,f,HW⟩:=fX j;cases kW HW;cases i;exact⟨t,_,_,Z,e,g,f⟩
def Parts(H:Hp)(vs:List V):Rw->Prop
 | .load b c=>vs=[.str "load",.str (v7 b),.int c]
 | .store c e=>∃x,vs=[.str "store",.int c,x]/\Dat H x (oJ e)
 | .swap b c e=>∃x,vs=[.str "swap",.str (v7 b),.int c,x]/\Dat H x (oJ e)
 | .yP b e=>∃x,vs=[.str "let",.str (v7 b),x]/\Dat H x (oJ e)
 | .say e=>∃x,vs=[.str "say",x]/\Dat H x (oJ e)
 | .go k=>vs=[.str "go",.int k]
 | .yp q e f k=>∃x y,vs=[.str "unless",.str (if q then "=" else "<"),x,y,.int k]/\Dat H x (oJ e)/\Dat H y (oJ f)
theorem Px{r:Rw}(h:Dat H v (n_ r)):∃t vs,v=.ref t/\H t=some (.tup vs)/\Parts H vs r:=by
 cases r<;>simp only[n_,Dat] at h<;>obtain⟨t,vs,rfl,e,d⟩:=h<;>refine⟨t,vs,Z,e,?_⟩<;>obtain⟨_,_,rfl,l,j⟩:=fX d<;>cases l<;>obtain⟨_,_,rfl,b,f⟩:=fX j
 .obtain⟨_,_,rfl,a,HW⟩:=fX f
  cases kW HW;cases b;cases a;rfl
 .obtain⟨_,_,rfl,a,HW⟩:=fX f
  cases kW HW;cases b;exact⟨_,Z,a⟩
 .obtain⟨_,_,rfl,a,HW⟩:=fX f
  obtain⟨_,_,rfl,g,c⟩:=fX HW;cases kW c;cases b;cases a;exact⟨_,Z,g⟩
 .obtain⟨_,_,rfl,a,HW⟩:=fX f
  cases kW HW;cases b;exact⟨_,Z,a⟩
 .cases kW f
  exact⟨_,Z,b⟩
 .cases kW f
  cases b;rfl
 .obtain⟨_,_,rfl,a,HW⟩:=fX f
  obtain⟨_,_,rfl,g,c⟩:=fX HW;obtain⟨_,_,rfl,k,i⟩:=fX c;cases kW i;cases b;cases k;exact⟨_,_,Z,a,g⟩
def v1(bs:List Int):RP->Int
 | .num n=>n % 1000
 | .box b=>(bs[b]?).getD 0
def vx(bs:List Int):Kl->Int
 | .one x=>v1 bs x
 | .two true x y=>(v1 bs x+v1 bs y) % 1000
 | .two false x y=>(v1 bs x-v1 bs y) % 1000
structure bO where
 (rws:List Rw) (pos:Nat) (bs sy:List Int) (st:Str)
def touch:Rw->Bool
 | .load _ _=>true
 | .store _ _=>true
 | .swap _ _ _=>true
 | _=>false
def xV(bs:List Int):Rw->Bool
 | .yp true e f _=>decide (vx bs e=vx bs f)
 | .yp false e f _=>decide (vx bs e<vx bs f)
 | _=>false
def yD(s:bO):Rw->bO
 | .yP b e=>{s with pos:=s.pos+1,bs:=s.bs.set b (vx s.bs e)}
 | .say e=>{s with pos:=s.pos+1,sy:=s.sy++[vx s.bs e]}
 | .go k=>{s with pos:=k}
 | .yp q e f k=>{s with pos:=if xV s.bs (.yp q e f k) then s.pos+1 else k}
 | _=>s
def led:Nat->bO->bO
 | 0,s=>match s.rws[s.pos]? with
   | none=>{s with st:= "ends" }
   | some r=>if touch r then {s with st:= "waits" } else {s with st:= "lost" }
 | n+1,s=>match s.rws[s.pos]? with
   | none=>{s with st:= "ends" }
   | some r=>if touch r then {s with st:= "waits" } else led n (yD s r)
def lead(s:bO):bO:=led 60 s
theorem En(s:bO)(r:Rw):(yD s r).rws=s.rws:=by cases r<;>rfl
theorem JN(s:bO)(r:Rw):(yD s r).sy.length<=s.sy.length+1:=by cases r<;>simp[yD]
theorem vJ:∀(n:Nat)(s:bO),(led n s).rws=s.rws
 | 0,s=>by
   unfold led;split
   .rfl
   .split<;>rfl
 | n+1,s=>by
   unfold led;split
   .rfl
   .split
    .rfl
    .rw[vJ,En]
theorem Lk:∀(n:Nat)(s:bO),(led n s).sy.length<=s.sy.length+n
 | 0,s=>by
   unfold led;split
   .simp
   .split<;>simp
 | n+1,s=>by
   unfold led;split
   .simp
   .split
    .simp
    .rename_i r _ _
     have:=Lk n (yD s r);have:=JN s r;lia
def sX(s:bO):Prop:=s.st = "waits" -> ∃r,s.rws[s.pos]?=some r/\touch r=true
theorem O7:(Str.ofString "ends")≠Str.ofString "waits" :=by decide +kernel
theorem Y0:(Str.ofString "lost")≠Str.ofString "waits" :=by decide +kernel
theorem Ln:∀(n:Nat)(s:bO),sX (led n s)
 | 0,s=>by
   unfold led sX;split
   .intro z;exact ac' z O7
   .rename_i r e
    split
    .intro _;exact⟨r,e,by assumption⟩
    .intro z;exact ac' z Y0
 | n+1,s=>by
   unfold led;split
   .intro z;exact ac' z O7
   .rename_i r e
    split
    .intro _;exact⟨r,e,by assumption⟩
    .exact Ln n _
def new(a:List Rw):bO:=⟨a,0,List.replicate 8 0,[],"waits"⟩
structure eO where
 (m:Nat) (ns:List Int) (hs:List bO) (ts:List Int)
def jd:Rw->Nat
 | .load _ c=>c
 | .store c _=>c
 | .swap _ c _=>c
 | _=>0
def tG:Rw->Str
 | .load _ _=> "load"
 | .store _ _=> "store"
 | .swap _ _ _=> "swap"
 | .yP _ _=> "let"
 | .say _=> "say"
 | .go _=> "go"
 | .yp _ _ _ _=> "unless"
def Bg(ns:List Int):Rw->Option Int
 | .load _ c=>ns[c]?
 | .swap _ c _=>ns[c]?
 | _=>none
def MN(bs:List Int):Rw->Option Int
 | .store _ e=>some (vx bs e)
 | .swap _ _ e=>some (vx bs e)
 | _=>none
def oV:Option Int->V
 | none=> .non
 | some i=> .int i
def oD:Option Int->PyData
 | none=> .none
 | some i=> .int i
def z_(ns bs:List Int)(r:Rw):List V:=[.str (tG r),.int (jd r),oV (Bg ns r),oV (MN bs r)]
def ux(ns bs:List Int):Rw->List Int
 | .load b c=>bs.set b ((ns[c]?).getD 0)
 | .swap b c _=>bs.set b ((ns[c]?).getD 0)
 | _=>bs
def dU(ns bs:List Int):Rw->List Int
 | .store c e=>ns.set c (vx bs e)
 | .swap _ c e=>ns.set c (vx bs e)
 | _=>ns
def lU(ns:List Int)(s:bO)(r:Rw):bO:=lead {s with pos:=s.pos+1,bs:=ux ns s.bs r}
def cA(S:eO)(k:Nat):eO:=match S.hs[k]? with
 | none=>S
 | some s=>match s.rws[s.pos]? with
   | none=>S
   | some r=>{S with ns:=dU S.ns s.bs r,hs:=S.hs.set k (lU S.ns s r),ts:=S.ts++[(k:Int)]}
def jY(m:Nat)(ns:List Int)(a:List (List Rw)):eO:=⟨m,ns,a.map λr=>lead (new r),[]⟩
end Prf
variable{rws:List (List Prf.Rw)}{S:Prf.eO}{hs:List Prf.bO}
namespace L2
open PySem Prf
theorem aR.kp{a:List Rw}(d:aR H vs (a.map n_))(t:∀x xs,H x=some (.tup xs)->H' x=some (.tup xs)):aR H' vs (a.map n_):=d.keep t _ (cH n_ GJ a)
end L2
namespace L2
open PySem PySem.Spec PyProof.Rows
theorem X8{Q:VK}(G:bR X.prog X.w X.K X.mg X.base iB k f fd ps sp)(d:fJ (k+1) X.A)(e:Binds X.K fd ps [])(I:Inv X pins σ H s)(r:Vals vs us)(q:sp vs H Q E0):wpAny (model X.prog X.w) X.A.in1 (call (.ref f) us) (EP X pins σ Q) X.xe s:=by
 have b:us.length=ps.length:=by rw[←r.length];exact G.len _ _ _ _ q
 have c:=e s us I.oH (by rw[List.append_nil];exact b);rw[List.append_nil] at c;refine wpAny_call (codeAny_mono (G.run X.A.in1 X.stack s H ⟨us,[]⟩ us vs Q E0 d.in1 I.env0.in1 c r q) λres g a=>?_)
 match res,a with
 | .error ev,a=>exact False.elim a
 | .ok (.ret u),a=>exact I.after a
def ad3(C:Addr)(sp:Sp):List V->Hp->VK->Prop:=λxs H Q=>∃(a dx:Addr) (b:List (Str×V)),xs=[.ref a]/\H a=some (.ins C dx b)/\sp [.ref a] H (λv H'=>∃n:Int,v=.int n/\0<=n/\n<2 ^ 62/\Q (.int n) H') E0
theorem Rr(M:MethAt X.prog X.w X.K X.mg X.base k C "__len__" ["self"] sp)(m:fJ (k+1) X.A):jt X (.builtin "len") (ad3 C sp):=by
 intro b s z H A us Q I e h;obtain⟨f,N,G,c,o⟩:=M;obtain⟨a,P,L,rfl,p,q⟩:=h;obtain⟨u,rfl,g⟩:=e.one;obtain rfl:u=Value.ref a:=g;obtain⟨F,y⟩:=I.fr;obtain⟨K,O,_⟩:=pH I.hok p;obtain⟨D,J,_⟩:=O.look;refine W.len_K y I.mod.VB J c.at_ c.fn (dG (X8 (us:=[.ref a]) (vs:=[.ref a]) G m o I (.cons rfl .nil) q) λv B l=>?_)
 obtain⟨x,w,r,d,n,rfl,j,E,i⟩:=l;obtain⟨t,rfl⟩:=d;exact⟨⟨j,by lia⟩,.int n,w,r.tok _,⟨_,Z⟩,i⟩
def ahh(C:Addr)(sp:Sp):R2:=λx y H Q=>∃(a b dx d:Addr) (c gs:List (Str×V)),x=.ref a/\y=.ref b/\H a=some (.ins C dx c)/\H b=some (.ins C d gs)/\sp [.ref a,.ref b] H (λv H'=>∃t:Bool,v=.bl t/\Q (.bl t) H') E0
theorem UJ(M:MethAt X.prog X.w X.K X.mg X.base k C "__eq__" ["self","other"] sp)(e:fJ (k+1) X.A):sZ X (compareOp .Eq) (ahh C sp):=by
 intro d s D H x y u v Q I c i h;obtain⟨f,S,G,g,n⟩:=M;obtain⟨a,b,U,T,R,P,rfl,rfl,p,o,q⟩:=h;obtain rfl:u=Value.ref a:=c;obtain rfl:v=Value.ref b:=i;obtain⟨N,O,_⟩:=pH I.hok p;obtain⟨F,J,_⟩:=O.look;obtain⟨L,r,_⟩:=pH I.hok o;obtain⟨l,w,_⟩:=r.look;obtain⟨K,B⟩:=I.fr;refine W.cmp_ofEq (W.cmp_K e.aaP B I.mod.VB J w.type (by simp[W.notFirst]) g.at_ g.fn (dG (Gh (us:=[.ref a,.ref b]) (vs:=[.ref a,.ref b]) (qY:=[]) (ds:=[]) G (e.mono (Nat.le_succ _)) n .nil Jc I (.cons rfl (.cons rfl .nil)) q) λv E m=>?_));obtain⟨x,A,z,c,t,rfl,j⟩:=m;obtain rfl:v=Value.bool t:=c;exact⟨.bl t,A,z,Z,j⟩
structure IsO(K:zzy)(mg:zzv)(C:Addr)(nm:Str):Prop where
 bd:mg nm=some (.ref C)
 ha:W.findIn K (.ref C) "__class__" = some (some (.builtin "object.__class__"))
 hn:W.specialIn K (.builtin "object.__class__") "__get__" = some (some (.builtin "getset_descriptor.__get__"))
 ht:W.takesIn K (.builtin "object.__class__")=some true
 hm:W.mroIn K C (.type "object")=some true
theorem IsO.ty{mg:zzv}{nm:Str}(o:IsO K mg C nm){d:Addr}{b:List (Str×V)}(e:H a=some (.ins C d b))(c:Cls K C):uz K H (.ref a) (.ref C):= .ins e c o.ha o.hn o.ht o.hm
section
variable{prog:Program}
theorem nxT{t:Addr}{a:Array Value}{x:Value}(hi:s.heap.IsTupleIter it t i)(e:s.heap.IsTuple t a)(d:a[i]?=some x)(k:∀h',h'.IsTupleIter it t (i+1)->Heap.SameBut it s.heap h'->Q x {s with heap:=h'}):wpAny (model prog w) A (Builtin.SmallTypes.nextOf (.ref it)) Q E s:=by
 obtain⟨l,c,h,b⟩:=id hi;obtain⟨j,g,_,nn,f⟩:=e;unfold Builtin.SmallTypes.nextOf;refine aax (wpAny_callSpecial?_slot (name:=Str.ofString "__next__") hi.typeIs F.slot_tuple_iterator_next (wpAny_call_entry F.slot_tuple_iterator_next hi.typeIs F.entry_tuple_iterator_next ?_ (F.args_tuple_iterator_next_1 _)));show wpAny _ _ (field (.ref it) 0 >>= _) _ _ s;refine aax (wpAny_field c b (x:= .ref t) rfl ?_);show wpAny _ _ (if (Value.ref t==Value.none)=true then _ else _) _ _ s;rw[ac9 (show ¬((Value.ref t==Value.none)=true) from aaV)];show wpAny _ _ (field (.ref it) 1 >>= _) _ _ s;refine aax (wpAny_field c b (x:= .int i 0) rfl ?_);show wpAny _ _ (seqItems? (.ref t) >>= _) _ _ s;refine aax (wpAny_seqItems g f ?_);simp only[acd,d];refine aax (wpAny_setField c b (by simp) (aay ⟨x,Z,aay (k _ ?_ (Heap.SameBut.update ..))⟩));refine⟨_,Heap.get?_update_self _ c (Obj.isFreed_of_fields (Obj.data_mapFields b _)),(Obj.cls_mapFields ..).trans h,?_⟩;rw[Obj.data_mapFields b];simp[rawInt]
theorem ah5{t:Addr}{b:Array Value}(f:A.handled=none)(hi:s.heap.IsTupleIter it t i)(h:s.heap.IsTuple t b)(g:b[i]?=none)(k:∀h' e,Heap.ExtBut it s.heap h'->(∃o,h'.get? e=some o/\o.cls=.type "StopIteration")->E (.ref e) {s with heap:=h'}):wpAny (model prog w) A (Builtin.SmallTypes.nextOf (.ref it)) Q E s:=by
 obtain⟨p,d,q,c⟩:=id hi;obtain⟨n,l,_,nn,j⟩:=h;unfold Builtin.SmallTypes.nextOf;refine aax (wpAny_callSpecial?_slot (name:=Str.ofString "__next__") hi.typeIs F.slot_tuple_iterator_next (wpAny_call_entry F.slot_tuple_iterator_next hi.typeIs F.entry_tuple_iterator_next ?_ (F.args_tuple_iterator_next_1 _)));show wpAny _ _ (field (.ref it) 0 >>= _) _ _ s;refine aax (wpAny_field d c (x:= .ref t) rfl ?_);show wpAny _ _ (if (Value.ref t==Value.none)=true then _ else _) _ _ s;rw[ac9 (show ¬((Value.ref t==Value.none)=true) from aaV)];show wpAny _ _ (field (.ref it) 1 >>= _) _ _ s;refine aax (wpAny_field d c (x:= .int i 0) rfl ?_);show wpAny _ _ (seqItems? (.ref t) >>= _) _ _ s;refine aax (wpAny_seqItems l j ?_);simp only[acd,g];refine aax (wpAny_rule (aax (wpAny_setField d c (by simp) ?_)));show wpAny _ _ (newExc (.type "StopIteration") [] >>= _) _ _ _;refine aax ?_;simp only[newExc,newTuple];refine aax (wpAny_newObj_type ?_ (by size_fits));refine aax (m:=firstArgMember _ _) (wpAny_of_eq (a:=Value.none) (by first |rfl|(simp only[firstArgMember];rfl)) ?_);refine wpAny_newObj_type ?_ (by size_fits);simp only[raiseNew];refine aax (wpAny_handled ?_)
 first |rw[show A.in1.handled=none from f]|rw[f]
 refine aax (aay (wpAny_throw (k _ _ (((Heap.SameBut.update ..).extBut.push _).push _) ⟨_,aao _ rfl,Z⟩)))
theorem aaI{z TI TO g f:Addr}{k1 k2:Nat}{xs ys:Array Value}{x y a b:Value}{Q:Option Value->Shared->Prop}(D:ZipApart z TI TO g f l1 l2)(m:IsZip s.heap z TI TO .none)(hI:IsPair s.heap TI (.ref g) (.ref f))(hO:IsPair s.heap TO a b)(h1:s.heap.IsTupleIter g l1 k1)(h2:s.heap.IsTupleIter f l2 k2)(X:s.heap.IsTuple l1 xs)(W:s.heap.IsTuple l2 ys)(hx:xs[k1]?=some x)(hy:ys[k2]?=some y)(k:∀h',IsZip h' z TI TO (rawInt s.heap.objs.size)->IsPair h' TO x y->h'.IsTupleIter g l1 (k1+1)->h'.IsTupleIter f l2 (k2+1)->IsPair h' s.heap.objs.size x y->h'.objs.size=s.heap.objs.size+1->(∀c o,c≠z->c≠TO->c≠g->c≠f->s.heap.get? c=some o->h'.get? c=some o)->Q (some (.ref s.heap.objs.size)) {s with heap:=h'}):
 wpAny (model prog w) A (pyNext (.ref z)) Q E s:=by
 have tz:s.TypeIs (.ref z) "zip" :=⟨_,m,Z⟩;unfold pyNext;refine aax (wpAny_attempt (wpAny_callSpecial?_slot (name:=Str.ofString "__next__") tz F.slot_zip_next (wpAny_call_entry F.slot_zip_next tz F.entry_zip_next ?_ (F.args_zip_next_1 _))));show wpAny _ _ (field (.ref z) 2 >>= _) _ _ _;refine aax (wpAny_field m rfl (x:= .bool false) rfl ?_);show wpAny _ _ (field (.ref z) 3 >>= _) _ _ _;refine aax (wpAny_field m rfl (x:= .ref TI) rfl ?_);refine aax (wpAny_seqItems hI rfl ?_);show wpAny _ _ (Builtin.SmallTypes.ownedTupleIsFree (.ref z) >>= _) _ _ _;refine aax ?_;unfold Builtin.SmallTypes.ownedTupleIsFree;refine aax (wpAny_field m rfl (x:= .none) rfl (aay ?_));simp only[if_true];refine aax (wpAny_rule (aax (wpAny_field m rfl (x:= .ref TO) rfl ?_)));refine aax (wpAny_setField_rec m (by simp) λg1 G h=>?_)
 replace G:IsZip g1 z TI TO .ellipsis:=G
 refine aax ?_;simp only[List.zipIdx_cons,List.zipIdx_nil,List.forIn_cons,List.forIn_nil];refine aax (aax (wpAny_onRaise ?_));show wpAny _ _ (Builtin.SmallTypes.nextOf (.ref g) >>= _) _ _ _
 refine aax (nxT (h1.extBut h.extBut D.i1z) (X.extBut h.extBut D.l1z) hx λg2 j1 l=>aay ?_);have S:IsPair g2 TO a b:=l.extBut _ _ D.TOi1 (h.extBut _ _ D.TOz hO);refine aax (wpAny_seqItems S rfl ?_);refine aax (wpAny_updateSeq_pair S λg3 L j=>?_)
 replace L:IsPair g3 TO x b:=L
 refine aax (wpAny_letGo (aay (aax (aax (wpAny_onRaise ?_)))));show wpAny _ _ (Builtin.SmallTypes.nextOf (.ref f) >>= _) _ _ _
 refine aax (nxT (((h2.extBut h.extBut D.i2z).extBut l.extBut D.i12.symm).extBut j.extBut D.TOi2.symm) (((W.extBut h.extBut D.l2z).extBut l.extBut D.l2i1).extBut j.extBut D.l2TO) hy λg4 j2 q=>aay ?_);have R:IsPair g4 TO x b:=q.extBut _ _ D.TOi2 L;refine aax (wpAny_seqItems R rfl ?_);refine aax (wpAny_updateSeq_pair R λd B p=>?_)
 replace B:IsPair d TO x y:=B
 refine aax (wpAny_letGo (aay (aay (aax (wpAny_seqItems B rfl (aax (wpAny_newTuple ?_)))))));have O:d.objs.size=s.heap.objs.size:=by rw[p.1,q.1,j.1,l.1,h.1]
 have M:IsZip d z TI TO .ellipsis:=p.extBut _ _ D.TOz.symm (q.extBut _ _ D.i2z.symm (j.extBut _ _ D.TOz.symm (l.extBut _ _ D.i1z.symm G)));have Y:∀c o,c≠z->c≠TO->c≠g->c≠f->s.heap.get? c=some o->d.get? c=some o:=λc o i v K J e=>p.extBut _ _ v (q.extBut _ _ J (j.extBut _ _ v (l.extBut _ _ K (h.extBut _ _ i e))));have V:d.IsTupleIter g l1 (k1+1):=((j1.extBut j.extBut D.TOi1.symm).extBut q.extBut D.i12).extBut p.extBut D.TOi1.symm;have U:d.IsTupleIter f l2 (k2+1):=j2.extBut p.extBut D.TOi2.symm;have n:z<d.objs.size:=aap M;show wpAny _ _ (Builtin.SmallTypes.ownedTupleHandOut (.ref z) (.ref d.objs.size) >>= _) _ _ _;refine aax ?_;unfold Builtin.SmallTypes.ownedTupleHandOut;have T:IsZip (d.push {cls:= .type "tuple",data:= .seq #[x,y]}) z TI TO .ellipsis:=aan _ M;refine aax (wpAny_setField_rec T (by simp) λg7 C I=>?_)
 replace C:IsZip g7 z TI TO (rawInt d.objs.size):=C
 refine wpAny_setField_rec C (by simp) λt u H=>?_
 replace u:IsZip t z TI TO (rawInt d.objs.size):=u
 have up:∀c o,c≠z->d.get? c=some o->t.get? c=some o:=λc o i e=>H.extBut _ _ i (I.extBut _ _ i (aan _ e));have N:IsPair t d.objs.size x y:=H.extBut _ _ (Nat.ne_of_gt n) (I.extBut _ _ (Nat.ne_of_gt n) (aao _ rfl));have P:t.objs.size=d.objs.size+1:=by rw[H.1,I.1,Heap.size_push]
 rw[O] at u N P;refine aay ⟨_,Z,aay ?_⟩;show Q (some (.ref d.objs.size)) _;rw[O];refine k t u (up _ _ D.TOz B) ?_ ?_ N P λc o i v K J e=>up c o i (Y c o i v K J e)
 .obtain⟨o,e,r⟩:=V;exact⟨o,up _ _ D.i1z e,r⟩
 .obtain⟨o,e,r⟩:=U;exact⟨o,up _ _ D.i2z e,r⟩
theorem adw{z TI TO f h:Addr}{k1 k2:Nat}{xs ys:Array Value}{a b:Value}{Q:Option Value->Shared->Prop}(J:A.handled=none)(D:ZipApart z TI TO f h l1 l2)(g:IsZip s.heap z TI TO .none)(L:IsPair s.heap TI (.ref f) (.ref h))(O:IsPair s.heap TO a b)(M:s.heap.IsTupleIter f l1 k1)(P:s.heap.IsTupleIter h l2 k2)(C:s.heap.IsTuple l1 xs)(N:s.heap.IsTuple l2 ys)(G:xs[k1]?=none)(k:∀h',(∀c o,c≠z->c≠TO->c≠f->c≠h->s.heap.get? c=some o->h'.get? c=some o)->Q none {s with heap:=h'}):wpAny (model prog w) A (pyNext (.ref z)) Q E s:=by
 have tz:s.TypeIs (.ref z) "zip" :=⟨_,g,Z⟩
 have stop:∀(h':Heap)(e:Addr),(∀c o,c≠z->c≠TO->c≠f->c≠h->s.heap.get? c=some o->h'.get? c=some o)->(∃o,h'.get? e=some o/\o.cls=.type "StopIteration")->wpAny (model prog w) A (do if ←isInstance (.ref e) (.type "StopIteration") then pure none else throw (.ref e)) Q E {s with heap:=h'}:=λh' e I n=>by
  obtain⟨o,H,K⟩:=n;exact aax (wpAny_isInstance (T:= "StopIteration") (b:=true) ⟨o,H,K⟩ isSubtype_stop (aay (k _ I)))
 unfold pyNext;refine aax (wpAny_attempt (wpAny_callSpecial?_slot (name:=Str.ofString "__next__") tz F.slot_zip_next (wpAny_call_entry F.slot_zip_next tz F.entry_zip_next ?_ (F.args_zip_next_1 _))));show wpAny _ _ (field (.ref z) 2 >>= _) _ _ _;refine aax (wpAny_field g rfl (x:= .bool false) rfl ?_);show wpAny _ _ (field (.ref z) 3 >>= _) _ _ _;refine aax (wpAny_field g rfl (x:= .ref TI) rfl ?_);refine aax (wpAny_seqItems L rfl ?_);show wpAny _ _ (Builtin.SmallTypes.ownedTupleIsFree (.ref z) >>= _) _ _ _;refine aax ?_;unfold Builtin.SmallTypes.ownedTupleIsFree;refine aax (wpAny_field g rfl (x:= .none) rfl (aay ?_));simp only[if_true];refine aax (wpAny_rule (aax (wpAny_field g rfl (x:= .ref TO) rfl ?_)));refine aax (wpAny_setField_rec g (by simp) λg1 j l=>?_)
 replace j:IsZip g1 z TI TO .ellipsis:=j
 refine aax ?_;simp only[List.zipIdx_cons,List.zipIdx_nil,List.forIn_cons,List.forIn_nil];refine aax (aax (wpAny_onRaise ?_));show wpAny _ _ (Builtin.SmallTypes.nextOf (.ref f) >>= _) _ _ _
 refine aax (ah5 J (M.extBut l.extBut D.i1z) (C.extBut l.extBut D.l1z) G λg2 e t n=>?_);obtain⟨y,d,i⟩:=n;have p:IsZip g2 z TI TO .ellipsis:=t _ _ D.i1z.symm j;have m:e≠z:=λq=>by subst q;rw[p] at d;cases d;simp at i
 refine wpAny_setField_rec p (by simp) λg3 _ r=>?_;obtain v:=stop g3 e (λc o u _ B _ q=>r.extBut _ _ u (t _ _ B (l.extBut _ _ u q))) ⟨y,r.extBut _ _ m d,i⟩;exact v
end
abbrev RV(l:Addr):Obj:={cls:= .type "tuple_iterator",data:= .fields #[.ref l,.int 0 0]}
abbrev zt3(h:Heap)(a b:Addr):Heap:=((h.push (RV a)).push (RV b)).push {cls:= .type "tuple",data:= .seq #[.ref h.objs.size,.ref (h.push (RV a)).objs.size]}
abbrev zt4(h:Heap)(b a:Addr):Heap:=(zt3 h b a).push {cls:= .type "tuple",data:= .seq #[.none,.none]}
abbrev zt5(h:Heap)(b a:Addr):Heap:=(zt4 h b a).push {cls:= .type "zip",data:= .fields #[.none,.bool false,.bool false,.ref ((h.push (RV b)).push (RV a)).objs.size,.ref (zt3 h b a).objs.size]}
theorem adv(a b:Addr)(xs ys:Array Value):Meets (Builtin.«zip.__new__» ⟨[.type "zip",.ref a,.ref b],[]⟩) (λ_ R s=>s.heap.IsTuple a xs/\s.heap.IsTuple b ys/\R (.ok (.ret (.ref (zt4 s.heap a b).objs.size))) {s with heap:=zt5 s.heap a b}):=
 .of_wp λprog w A R s h=>by
  obtain⟨e,g,d,c,os⟩:=s;obtain⟨i,f,h⟩:=h;have sub:=sub_zip;have M1:Heap.IsTuple (Shared.heap ⟨e,g,d,c,os⟩) a xs:=i;have M2:Heap.IsTuple (Shared.heap ⟨e.push {cls:= .type "tuple_iterator",data:= .fields #[.ref a,.int 0 0]},g,d,c,os⟩) b ys:=Heap.IsTuple.push f _
  wp_walk using wpAny_pyIter_tuple M1,wpAny_pyIter_tuple M2
  exact⟨_,Z,h⟩
section
variable{prog:Program}
theorem aaJ{xs ys:Array Value}(l:s.heap.IsTuple l1 xs)(j:s.heap.IsTuple l2 ys)(k:∀h',IsZip h' (s.heap.objs.size+4) (s.heap.objs.size+2) (s.heap.objs.size+3) .none->IsPair h' (s.heap.objs.size+2) (.ref s.heap.objs.size) (.ref (s.heap.objs.size+1))->IsPair h' (s.heap.objs.size+3) .none .none->h'.IsTupleIter s.heap.objs.size l1 0->h'.IsTupleIter (s.heap.objs.size+1) l2 0 ->
   (∀c o,s.heap.get? c=some o->h'.get? c=some o)->Q (.ref (s.heap.objs.size+4)) {s with heap:=h'}):wpAny (model prog w) A (call (.type "zip") [.ref l1,.ref l2]) Q E s:=by
 refine callType_new F.called_zip (by decide) (F.typeCall_zip_2 _ _) (F.newCall_zip_2 _ _) (λobj=>F.args_object_init_3 obj _ _) F.entry_zip_new (adv l1 l2 xs ys) ⟨l,j,?_⟩;have d:(s.heap.push (RV l1)).objs.size=s.heap.objs.size+1:=Heap.size_push ..;have b:((s.heap.push (RV l1)).push (RV l2)).objs.size=s.heap.objs.size+2:=by rw[Heap.size_push,d]
 have a:(zt3 s.heap l1 l2).objs.size=s.heap.objs.size+3:=by rw[Heap.size_push,b]
 have f:(zt4 s.heap l1 l2).objs.size=s.heap.objs.size+4:=by rw[Heap.size_push,a]
 have e:(zt5 s.heap l1 l2).get? (zt4 s.heap l1 l2).objs.size=some _:=aao _ rfl;have g:(zt5 s.heap l1 l2).get? (zt3 s.heap l1 l2).objs.size=some _:=aan _ (aao _ rfl);have h:(zt5 s.heap l1 l2).get? ((s.heap.push (RV l1)).push (RV l2)).objs.size=some _:=aan _ (aan _ (aao _ rfl));have i:(zt5 s.heap l1 l2).get? (s.heap.push (RV l1)).objs.size=some _:=aan _ (aan _ (aan _ (aao _ rfl)));have m:(zt5 s.heap l1 l2).get? s.heap.objs.size=some _:=aan _ (aan _ (aan _ (aan _ (aao _ rfl))));show _/\_;rw[b,a,f] at e;rw[d,b] at h;rw[a] at g;rw[d] at i;rw[f];refine⟨⟨_,e,Z⟩,k _ e h g ⟨_,m,Z,Z⟩ ⟨_,i,Z,Z⟩ λc o q=>?_⟩
 iterate 5 refine aan _ ?_
 exact q
end
def acM(K:zzy)(b a:Addr):It:=
 ⟨λi H=>∃xs ys x y,cD K H b xs/\cD K H a ys/\xs[i]?=some x/\ys[i]?=some y,
  λi H x H'=>∃(p:Addr) (y z:V),x=.ref p/\H p=none/\(∀xs,cD K H b xs->xs[i]?=some y)/\(∀ys,cD K H a ys->ys[i]?=some z)/\H'=upd H p (.tup [y,z]),
  λi H=>∃xs ys,cD K H b xs/\cD K H a ys/\xs.length<=i⟩
theorem Qa(z TI TO n m F D:Addr)(ap:ZipApart z TI TO n m F D):Turn P w K (.Tuple elts x1 pos) (acM K F D) [z,TI,TO,n,m] z
 (λi h=>IsZip h z TI TO .none/\IsPair h TI (.ref n) (.ref m)/\(∃a b,IsPair h TO a b)/\h.IsTupleIter n F i/\h.IsTupleIter m D i) where
 mem:=by simp
 obj:=λi h p b g=>by
  obtain⟨A,d,⟨a,c,f⟩,⟨S,h1,V,Q⟩,⟨R,M,U,O⟩⟩:=p;have B:b=z\/b=TI\/b=TO\/b=n\/b=m:=by simpa using g
  rcases B with rfl|rfl|rfl|rfl|rfl
  .exact⟨_,A,λv z=>by cases z⟩
  .exact⟨_,d,λv z=>by cases z⟩
  .exact⟨_,f,λv z=>by cases z⟩
  .exact⟨_,h1,λv z=>by rw[Q] at z;cases z⟩
  .exact⟨_,M,λv z=>by rw[O] at z;cases z⟩
 keep:=λi h h' p k=>by
  obtain⟨A,d,⟨a,c,f⟩,⟨S,h1,V,Q⟩,⟨R,M,U,O⟩⟩:=p;exact⟨k z (by simp) _ A,k TI (by simp) _ d,⟨a,c,k TO (by simp) _ f⟩,⟨S,k n (by simp) _ h1,V,Q⟩,⟨R,k m (by simp) _ M,U,O⟩⟩
 item:=by
  intro X hP hw hK hc i j s σ H E I hf p hg;subst hP hw hK;obtain⟨xs,ys,x,y,r,q,hx,T⟩:=hg;obtain⟨Jx,X7,p1,a3⟩:=I.tuple r;obtain⟨l,Z_,p2,a2⟩:=I.tuple q;obtain⟨u1,a7,a1⟩:=X7.get hx;obtain⟨Y,a6,a0⟩:=Z_.get T;obtain⟨A,d,⟨a,c,f⟩,hi1,t⟩:=p;have W:=aap A;have b7:=aap d;have b8:=aap f;have c0:n<s.heap.objs.size:=by obtain⟨o,ho,_⟩:=id hi1;exact aap ho
  have c3:m<s.heap.objs.size:=by obtain⟨o,ho,_⟩:=id t;exact aap ho
  refine aaI ap A d f hi1 t (show s.heap.IsTuple F Jx.toArray from p1) (show s.heap.IsTuple D l.toArray from p2) (x:=u1) (y:=Y) (by simpa using a7) (by simpa using a6) λh' a4 b5 b6 J G c5 hk=>?_;refine⟨_,Z,?_⟩;refine wpAny_letOwnedTupleGo_zip a4 λM b9 C=>?_;have b0:H s.heap.objs.size=none:=I.hok.fresh (aaw _)
  have I0:Inv X j σ (upd H s.heap.objs.size (.tup [x,y])) {s with heap:=s.heap.push {cls:= .type "tuple",data:= .seq #[u1,Y]}}:=
   I.laid (t':=s.toks) (λb u e=>aan _ e) (aaw _) ⟨by show 2<=sizeLine;decide,[u1,Y],.cons a1 (.cons a0 .nil),⟨_,aao _ rfl,Z,_,Z⟩⟩
  have L:∀b∈[z,TI,TO,n,m],rJ X j (upd H s.heap.objs.size (.tup [x,y])) b:=λb g=>by
   refine(hf b g).upd ?_;have B:b=z\/b=TI\/b=TO\/b=n\/b=m:=by simpa using g
   rcases B with rfl|rfl|rfl|rfl|rfl
   .exact abX W
   .exact abX b7
   .exact abX b8
   .exact abX c0
   .exact abX c3
  have I1:=I0.rM (h':=M) (t':=s.toks) L (λb o g N=>by
   have b1:b≠z:=λe=>g (by simp[e]);have b2:b≠TO:=λe=>g (by simp[e]);have b3:b≠n:=λe=>g (by simp[e]);have b4:b≠m:=λe=>g (by simp[e]);rw[C.2 b b1];rcases BZ rfl N with ⟨rfl,rfl⟩|N
   .exact G
   .exact hk b o b1 b2 b3 b4 N)
  refine⟨.ref s.heap.objs.size,_,I1,Z,⟨s.heap.objs.size,x,y,Z,b0,λys T=>by rw[I.wO T r];exact hx,λc4 a5=>by rw[I.wO a5 q];exact T,Z⟩,?_,λb g=>(L b g).1⟩;obtain⟨S,a9,V,Q⟩:=b6;obtain⟨R,a8,U,O⟩:=J;exact⟨b9,(C.2 TI ap.TIz).trans (hk TI _ ap.TIz ap.TITO ap.TIi1 ap.TIi2 d),⟨_,_,(C.2 TO ap.TOz).trans b5⟩,⟨S,(C.2 n ap.i1z).trans a9,V,Q⟩,⟨R,(C.2 m ap.i2z).trans a8,U,O⟩⟩
 done:=by
  intro X hP hw hK hc i j s σ H E I hf p hg;subst hP hw hK;obtain⟨xs,ys,r,q,hx⟩:=hg;obtain⟨Jx,X7,p1,a3⟩:=I.tuple r;obtain⟨l,Z_,p2,a2⟩:=I.tuple q;obtain⟨A,d,⟨a,c,f⟩,hi1,t⟩:=p;have c6:=X7.length;refine adw (I.ok.hd hc) ap A d f hi1 t (show s.heap.IsTuple F Jx.toArray from p1) (show s.heap.IsTuple D l.toArray from p2) (by simp;lia) λh' N=>⟨Z,I.rM (t':=s.toks) hf (λb o g e=>N b o (λz=>g (by simp[z])) (λz=>g (by simp[z])) (λz=>g (by simp[z])) (λz=>g (by simp[z])) e)⟩
 self:=λ_ _ _ _ _ p h=>wpAny_pyIter_zip p.1 h
def aes(K:zzy)(a:TA):TI:=λσ H R=>a σ H λvs H1=>∃l1 l2 xs ys,vs=[.ref l1,.ref l2]/\((bG K H1 l1 xs/\bG K H1 l2 ys/\R (Itz K l1 l2) H1)\/(cD K H1 l1 xs/\cD K H1 l2 ys/\R (acM K l1 l2) H1))
theorem Yo{a b:Expr}{P:TA}{p:Pos}(hK:X.K=K)(hg:Gl X "zip")(hm:X.mg "zip" = none)(ha:PA X [a,b] P)(hs:starEach [a,b] X.env=[(false,eval a X.env),(false,eval b X.env)]:=by rfl)(B:starEach [b] X.env=[(false,eval b X.env)]:=by rfl):PI X (.Tuple elts x1 tpos) (.Call (.Name "zip" p) [a,b] [] pos) (aes K P):=by
 subst hK;intro d s E H R I h;refine Call_ (pF I hg hm boot_zip (PyProof.Rows.callWith_type1 (dG (ha pos d s E H _ I h) λU c ⟨vs,H1,f,V,q1⟩=>?_) (by rw[hs,B]) (by rw[B];rfl)));obtain⟨A,z,xs,ys,e,q1⟩:=q1;subst e
 obtain⟨F,k,rfl,r,G⟩:∃F k,U=F::k/\RelV (.ref A) F/\Vals [.ref z] k:=by
  cases V with
  | cons r G=>exact⟨_,_,Z,r,G⟩
 obtain⟨u2,rfl,W⟩:=G.one;cases r;cases W
 have D:∀b∈[c.heap.objs.size+4,c.heap.objs.size+2,c.heap.objs.size+3,c.heap.objs.size,c.heap.objs.size+1],c.heap.objs.size<=b:=λb w=>by
  have:b=c.heap.objs.size+4\/b=c.heap.objs.size+2\/b=c.heap.objs.size+3\/b=c.heap.objs.size\/b=c.heap.objs.size+1:=by simpa using w
  rcases this with rfl|rfl|rfl|rfl|rfl
  .exact Nat.le_add_right _ _
  .exact Nat.le_add_right _ _
  .exact Nat.le_add_right _ _
  .exact aaw _
  .exact Nat.le_add_right _ _
 rcases q1 with ⟨t,n,q⟩|⟨t,n,q⟩
 .obtain⟨T,X7,i,L⟩:=f.list t
  obtain⟨j,Z_,g,J⟩:=f.list n;have m:A<c.heap.objs.size:=by obtain⟨o,u,_⟩:=i.isList;exact aap u
  have l:z<c.heap.objs.size:=by obtain⟨o,u,_⟩:=g.isList;exact aap u
  refine call_zip_2 i.isList g.isList λN C y x hi1 v Y M=>?_;refine wpAny_pyIter_zip C ?_;have O:Inv X d E H1 {c with heap:=N}:=f.kept (t':=c.toks) M;exact⟨c.heap.objs.size+4,[c.heap.objs.size+4,c.heap.objs.size+2,c.heap.objs.size+3,c.heap.objs.size,c.heap.objs.size+1],_,_,H1,Z,O,Sw _ _ _ _ _ A z (zipApart_new m l),⟨C,y,⟨_,_,x⟩,hi1,v⟩,λb w=>f.yS (D b w) (f.hok.fresh (D b w)),q⟩
 .obtain⟨T,X7,i,L⟩:=f.tuple t
  obtain⟨j,Z_,g,J⟩:=f.tuple n;have S:c.heap.IsTuple A T.toArray:=i;have Q:c.heap.IsTuple z j.toArray:=g;have m:A<c.heap.objs.size:=by obtain⟨o,u,_⟩:=id S;exact aap u
  have l:z<c.heap.objs.size:=by obtain⟨o,u,_⟩:=id Q;exact aap u
  refine aaJ S Q λN C y x hi1 v M=>?_;refine wpAny_pyIter_zip C ?_;have O:Inv X d E H1 {c with heap:=N}:=f.kept (t':=c.toks) M;exact⟨c.heap.objs.size+4,[c.heap.objs.size+4,c.heap.objs.size+2,c.heap.objs.size+3,c.heap.objs.size,c.heap.objs.size+1],_,_,H1,Z,O,Qa _ _ _ _ _ A z (zipApart_new m l),⟨C,y,⟨_,_,x⟩,hi1,v⟩,λb w=>f.yS (D b w) (f.hok.fresh (D b w)),q⟩
section
variable{Q:VK}{rest:St}{H1:Hp}
theorem LQ(I:xs.length=n)(E:ys.length=n)(f:Nat->Option V)(A:H1 D=none)(h:H1 l1=some (.tup xs))(g:H1 l2=some (.tup ys))(O:n<=100000)(hs:∀i x y H (G:Hp->Prop) (F:VK),xs[i]?=some x->ys[i]?=some y->Same H1 H->(∀H',Same H H'->f i=none->G H')->(∀y H',Same H H'->f i=some y->F y H')->tc (some x::some y::rest) H λb r=>if b=true then te (some x::some y::rest) r F else G r)(J:∀H,Same H1 H->H D=some (.lst ((List.range n).filterMap f))->Q (.ref D) H):jk (acM K l1 l2) (V5 K 2 (Ej (bU 0) (Ej (bU 1) acj))) tc te Q D (none::none::rest) H1:=by
 refine⟨λi m s H=>m=n-i/\i<=n/\(∃u v,s=u::v::rest)/\Same H1 H/\H D=some (.lst ((List.range i).filterMap f)),⟨n,by simp,Nat.zero_le _,⟨none,none,Z⟩,aH A,ak⟩,?_⟩;rintro i m s H ⟨rfl,P,⟨u,v,rfl⟩,a,e⟩
 by_cases l:i<n
 .have q1:cD K H l1 xs:=cD.of (a _ _ h)
  have q2:cD K H l2 ys:=cD.of (a _ _ g);have k:xs[i]?=some (xs[i]'(by lia)):=aaj _;have j:ys[i]?=some (ys[i]'(by lia)):=aaj _;refine .inr ⟨⟨xs,ys,_,_,q1,q2,k,j⟩,λc H'=>(∃u v,c=u::v::rest)/\Same H1 H'/\H' D=some (.lst ((List.range (i+1)).filterMap f)),λc H' B=>⟨n-(i+1),by lia,Z,l,B⟩,?_⟩;rintro x H' ⟨p,y,z,rfl,C,N,M,rfl⟩;have d:=aH (o:=HO.tup [y,z]) C;refine⟨p,[y,z],Z,cD.of ak,Z,_,_,Z,_,_,Z,Z,?_⟩;refine hs i y z _ _ _ (N _ q1) (M _ q2) (a.trans d) (λr w q=>⟨⟨_,_,Z⟩,(a.trans d).trans w,by rw[w _ _ (d _ _ e),d8,q];simp⟩) (λy R t q=>?_);refine⟨_,t _ _ (d _ _ e),?_,⟨_,_,Z⟩,((a.trans d).trans t).newly A,?_⟩
  .have:=ur f i
   rw[sizeLine_eq];lia
  .rw[ak,d8,q];rfl
 .have L:i=n:=by lia
  subst L;exact .inl ⟨⟨xs,ys,cD.of (a _ _ h),cD.of (a _ _ g),by lia⟩,J H a e⟩
end
end L2
namespace Prf
open PySem L2
def inR(x:Int):Prop:=0<=x/\x<1000
def allR(l:List Int):Prop:=∀x∈l,inR x
theorem Kc{l:List Int}(h:allR l)(i:Nat):inR ((l[i]?).getD 0):=by
 cases e:l[i]? with
 | none=>exact⟨by decide,by decide⟩
 | some x=>exact h x (aaK e)
theorem Cr{l:List Int}(h:allR l)(i:Nat){x:Int}(b:inR x):allR (l.set i x):=λy a=>by
 rcases List.mem_or_eq_of_mem_set a with m|e
 .exact h y m
 .rw[e];exact b
theorem Gw(x:Int):inR (x % 1000):=⟨Int.emod_nonneg _ (by decide),Int.emod_lt_of_pos _ (by decide)⟩
theorem Sq{bs:List Int}(h:allR bs):∀e:Kl,inR (vx bs e)
 | .one (.num n)=>Gw n
 | .one (.box b)=>Kc h b
 | .two true x y=>Gw _
 | .two false x y=>Gw _
theorem Zt{s:bO}(h:allR s.bs)(r:Rw):allR (yD s r).bs:=by
 cases r<;>first |exact h|exact Cr h _ (Sq h _)
theorem Vw:∀(n:Nat)(s:bO),allR s.bs->allR (led n s).bs
 | 0,s,h=>by
   unfold led;split
   .exact h
   .split<;>exact h
 | n+1,s,h=>by
   unfold led;split
   .exact h
   .split
    .exact h
    .exact Vw n _ (Zt h _)
def XD(x:Str):Prop:=x = "waits" \/ x = "ends" \/ x = "lost"
theorem BJ:∀(n:Nat)(s:bO),XD (led n s).st
 | 0,s=>by
   unfold led;split
   .exact .inr (.inl rfl)
   .split
    .exact .inl rfl
    .exact .inr (.inr rfl)
 | n+1,s=>by
   unfold led;split
   .exact .inr (.inl rfl)
   .split
    .exact .inl rfl
    .exact BJ n _
structure kJ(S:eO):Prop where
 n:allR S.ns
 b:∀s∈S.hs,allR s.bs
 t:∀s∈S.hs,XD s.st
theorem ZC{bs:List Int}(h:allR ns)(a:allR bs)(r:Rw):allR (dU ns bs r):=by
 cases r<;>first |exact h|exact Cr h _ (Sq a _)
theorem ZF{bs:List Int}(h:allR ns)(a:allR bs)(r:Rw):allR (ux ns bs r):=by
 cases r<;>first |exact a|exact Cr a _ (Kc h _)
theorem kJ.turn(g:kJ S)(k:Nat):kJ (cA S k):=by
 unfold cA;split
 .exact g
 .rename_i s d
  split
  .exact g
  .rename_i r f
   have c:=g.b s (aaK d);refine⟨ZC g.n c r,λb a=>?_,λb a=>?_⟩
   .rcases List.mem_or_eq_of_mem_set a with m|e
    .exact g.b b m
    .rw[e]
     exact Vw _ _ (ZF g.n c r)
   .rcases List.mem_or_eq_of_mem_set a with m|e
    .exact g.t b m
    .rw[e]
     exact BJ _ _
theorem Q7(h:allR ns):kJ (jY m ns rws):=⟨h,λs a=>by
 obtain⟨r,_,rfl⟩:=acL.mp a;refine Vw _ _ λx b=>?_;rw[(List.mem_replicate.mp b).2];exact⟨by decide,by decide⟩,λs a=>by
 obtain⟨r,_,rfl⟩:=acL.mp a;exact BJ _ _⟩
theorem Hs:∀b:Fin 8,PyData.strOk (v7 b.val)=true:=by decide +kernel
theorem Mf{x:RP}(h:Sg x):(Ds x).canLay0=true/\(Ds x).depth<=1:=by
 cases x with
 | num n=>exact⟨by show (PyData.strOk (Str.ofString "number")&&(true&&true))=true;decide +kernel,by show (max 0 (max 0 0))+1<=1;decide⟩
 | box b=>
   refine⟨?_,by show (max 0 (max 0 0))+1<=1;decide⟩;show (PyData.strOk (Str.ofString "box")&&(PyData.strOk (v7 b)&&true))=true;rw[show PyData.strOk (v7 b)=true from Hs ⟨b,h⟩];decide +kernel
theorem xZ{e:Kl}(h:xX e):(oJ e).canLay0=true/\(oJ e).depth<=2:=by
 cases e with
 | one x=>obtain⟨a,b⟩:=Mf (x:=x) h;exact⟨a,by show (Ds x).depth<=2;lia⟩
 | two p x y=>
   obtain⟨d,g⟩:=Mf h.1;obtain⟨c,f⟩:=Mf h.2;refine⟨?_,?_⟩
   .show (PyData.strOk (if p then Str.ofString "plus" else Str.ofString "minus")&&(PyData.canLay0 (Ds x)&&(PyData.canLay0 (Ds y)&&true)))=true
    rw[d,c];cases p<;>decide +kernel
   .show max 0 (max (Ds x).depth (max (Ds y).depth 0))+1<=2
    lia
theorem Ww{r:Rw}(h:I_ m r):(n_ r).canLay0=true/\(n_ r).depth<=3:=by
 cases r with
 | load b c=>
   refine⟨?_,by show max 0 (max 0 (max 0 0))+1<=3;decide⟩;show (PyData.strOk (Str.ofString "load")&&(PyData.strOk (v7 b)&&(true&&true)))=true;rw[show PyData.strOk (v7 b)=true from Hs ⟨b,h.1⟩];decide +kernel
 | store c e=>
   obtain⟨a,d⟩:=xZ h.2;refine⟨?_,?_⟩
   .show (PyData.strOk (Str.ofString "store")&&(true&&(PyData.canLay0 (oJ e)&&true)))=true
    rw[a];decide +kernel
   .show max 0 (max 0 (max (oJ e).depth 0))+1<=3
    lia
 | swap b c e=>
   obtain⟨a,d⟩:=xZ h.2.2;refine⟨?_,?_⟩
   .show (PyData.strOk (Str.ofString "swap")&&(PyData.strOk (v7 b)&&(true&&(PyData.canLay0 (oJ e)&&true))))=true
    rw[a,show PyData.strOk (v7 b)=true from Hs ⟨b,h.1⟩];decide +kernel
   .show max 0 (max 0 (max 0 (max (oJ e).depth 0)))+1<=3
    lia
 | yP b e=>
   obtain⟨a,d⟩:=xZ h.2;refine⟨?_,?_⟩
   .show (PyData.strOk (Str.ofString "let")&&(PyData.strOk (v7 b)&&(PyData.canLay0 (oJ e)&&true)))=true
    rw[a,show PyData.strOk (v7 b)=true from Hs ⟨b,h.1⟩];decide +kernel
   .show max 0 (max 0 (max (oJ e).depth 0))+1<=3
    lia
 | say e=>
   obtain⟨a,d⟩:=xZ (e:=e) h;refine⟨?_,?_⟩
   .show (PyData.strOk (Str.ofString "say")&&(PyData.canLay0 (oJ e)&&true))=true
    rw[a];decide +kernel
   .show max 0 (max (oJ e).depth 0)+1<=3
    lia
 | go k=>exact⟨by show (PyData.strOk (Str.ofString "go")&&(true&&true))=true;decide +kernel,by show max 0 (max 0 0)+1<=3;decide⟩
 | yp q e f k=>
   obtain⟨i,l⟩:=xZ h.1;obtain⟨g,j⟩:=xZ h.2;refine⟨?_,?_⟩
   .show (PyData.strOk (Str.ofString "unless")&&(PyData.strOk (if q then Str.ofString "=" else Str.ofString "<")&&(PyData.canLay0 (oJ e)&&(PyData.canLay0 (oJ f)&&(true&&true)))))=true
    rw[i,g];cases q<;>decide +kernel
   .show max 0 (max 0 (max (oJ e).depth (max (oJ f).depth (max 0 0))))+1<=3
    lia
def jq(l:List Int):PyData:= .list (l.map PyData.int)
theorem vX(l:List Int):(jq l).canLay0=true/\(jq l).depth<=1:=⟨jF PyData.int l λ_ _=>rfl,by
 have:=h_ PyData.int 0 l λ_ _=>by show 0<=0;decide
 show PyData.depthAll (l.map PyData.int)+1<=1;lia⟩
def xM(s:bO):PyData:= .tuple [.str s.st,if s.st = "waits" then .int s.pos else .none,jq s.bs,jq s.sy]
theorem adR(h:XD x):PyData.strOk x=true:=by
 rcases h with rfl|rfl|rfl<;>decide +kernel
theorem Pj{s:bO}(h:XD s.st):(xM s).canLay0=true/\(xM s).depth<=2:=by
 obtain⟨c,f⟩:=vX s.bs;obtain⟨b,e⟩:=vX s.sy;have a:(if s.st = "waits" then PyData.int s.pos else .none).canLay0=true:=by split<;>rfl
 have d:(if s.st = "waits" then PyData.int s.pos else .none).depth=0:=by split<;>rfl
 refine⟨?_,?_⟩
 .show (PyData.strOk s.st&&(PyData.canLay0 (if s.st = "waits" then PyData.int s.pos else .none)&&(PyData.canLay0 (jq s.bs)&&(PyData.canLay0 (jq s.sy)&&true))))=true
  rw[c,b,a,adR h];rfl
 .show max 0 (max (PyData.depth (if s.st = "waits" then PyData.int s.pos else .none)) (max (jq s.bs).depth (max (jq s.sy).depth 0)))+1<=2
  lia
def vo(a:List Rw):PyData:= .list (a.map n_)
def Um(S:eO):PyData:= .tuple [.int S.m,.list (S.hs.map λs=>vo s.rws)]
def Sh(S:eO)(cs:List Int):PyData:= .tuple [Um S,jq S.ns,.list (S.hs.map xM),jq cs]
theorem JZ{a:List Rw}(h:∀r∈a,I_ m r):(vo a).canLay0=true/\(vo a).depth<=4:=⟨jF n_ a λr b=>(Ww (h r b)).1,by
 have:=h_ n_ 3 a λr b=>(Ww (h r b)).2;show PyData.depthAll (a.map n_)+1<=4;lia⟩
theorem Ho(g:kJ S)(h:∀s∈S.hs,∀r∈s.rws,I_ S.m r):SeqAt.shaped (Sh S cs)=true:=by
 obtain⟨f,l⟩:=vX S.ns;obtain⟨e,k⟩:=vX cs;have d:PyData.canLay0 (.list (S.hs.map xM))=true:=jF xM S.hs λs hs=>(Pj (g.t s hs)).1;have j:=h_ xM 2 S.hs λs hs=>(Pj (g.t s hs)).2;have c:PyData.canLay0 (.list (S.hs.map λs=>vo s.rws))=true:=jF (λs:bO=>vo s.rws) S.hs λs hs=>(JZ (h s hs)).1;have i:=h_ (λs:bO=>vo s.rws) 4 S.hs λs hs=>(JZ (h s hs)).2
 have b:PyData.canLay0 (Sh S cs)=true:=by
  show ((true&&(PyData.canLay0 (.list (S.hs.map λs=>vo s.rws))&&true))&&(PyData.canLay0 (jq S.ns)&&(PyData.canLay0 (.list (S.hs.map xM))&&(PyData.canLay0 (jq cs)&&true))))=true;rw[f,e,d,c];rfl
 have a:PyData.depth (Sh S cs)<=64:=by
  show max (max 0 (max (PyData.depthAll (S.hs.map λs=>vo s.rws)+1) 0)+1) (max (jq S.ns).depth (max (PyData.depthAll (S.hs.map xM)+1) (max (jq cs).depth 0)))+1<=64;lia
 unfold SeqAt.shaped;rw[b,aaO a];rfl
mutual
theorem JK:∀d:PyData,d.canLay0=true->PyData.eqv d d=true
 | .none,_=>rfl
 | .bool b,_=>by simp[PyData.eqv]
 | .int i,_=>by simp[PyData.eqv]
 | .str x,_=>by simp[PyData.eqv]
 | .list ds,h=>by simp only[PyData.eqv];exact xY ds (by simpa [PyData.canLay0] using h)
 | .tuple ds,h=>by simp only[PyData.eqv];exact xY ds (by simpa [PyData.canLay0] using h)
 | .dict _,h=>by simp[PyData.canLay0] at h
theorem xY:∀ds:List PyData,PyData.canLayAll0 ds=true->PyData.eqvAll ds ds=true
 | [],_=>rfl
 | d::ds,h=>by
   simp only[PyData.canLayAll0,acg] at h;simp only[PyData.eqvAll,acg];exact⟨JK d h.1,xY ds h.2⟩
end
theorem Wb{d:PyData}(h:SeqAt.shaped d=true):PyData.eqv d d=true:=by
 unfold SeqAt.shaped at h;rw[acg] at h;exact JK d h.1
def isLoad:Rw->Bool
 | .load _ _=>true
 | _=>false
theorem vW{bs:List Int}{r:Rw}{c:Nat}(h:jd r≠c):(dU ns bs r)[c]?=ns[c]? :=by
 cases r<;>first |rfl|(simp only[jd] at h;simp only[dU];rw[List.getElem?_set_ne h])
theorem jX{bs:List Int}{r:Rw}(h:isLoad r=true):dU ns bs r=ns:=by
 cases r<;>first |rfl|cases h
def apart(r q:Rw):Prop:=jd r≠jd q\/(isLoad r=true/\isLoad q=true)
theorem apart.symm{r q:Rw}(h:apart r q):apart q r:=by
 rcases h with h|⟨a,b⟩
 .exact .inl h.symm
 .exact .inr ⟨b,a⟩
theorem apart.boxes{bs:List Int}{r q:Rw}(h:apart r q):ux (dU ns bs r) cs q=ux ns cs q:=by
 rcases h with h|⟨a,_⟩
 .cases q<;>first |rfl|(simp only[ux];have b:=vW (ns:=ns) (bs:=bs) h;simp only[jd] at b;rw[b])
 .rw[jX a]
theorem apart.read{bs:List Int}{r q:Rw}(h:apart r q):Bg (dU ns bs r) q=Bg ns q:=by
 rcases h with h|⟨a,_⟩
 .cases q<;>first |rfl|(simp only[Bg];have b:=vW (ns:=ns) (bs:=bs) h;simp only[jd] at b;rw[b])
 .rw[jX a]
theorem apart.cells{bs:List Int}{r q:Rw}(h:apart r q):dU (dU ns bs r) cs q=dU (dU ns cs q) bs r:=by
 rcases h with h|⟨a,b⟩
 .cases r<;>cases q<;>first |rfl|(simp only[jd] at h;simp only[dU];exact List.set_comm _ _ h)
 .rw[jX a,jX b,jX a]
theorem lA{s:bO}{r:Rw}(a:S.hs[k]?=some s)(b:s.rws[s.pos]?=some r):cA S k={S with ns:=dU S.ns s.bs r,hs:=S.hs.set k (lU S.ns s r),ts:=S.ts++[(k:Int)]}:=by
 unfold cA;simp only[a,b]
theorem nU{f g:Nat}{s t:bO}{r q:Rw}(n:f≠g)(d:S.hs[f]?=some s)(e:s.rws[s.pos]?=some r)(c:S.hs[g]?=some t)(eq:t.rws[t.pos]?=some q):
 (cA S f).hs[g]?=some t/\cA (cA S f) g={S with ns:=dU (dU S.ns s.bs r) t.bs q,hs:=(S.hs.set f (lU S.ns s r)).set g (lU (dU S.ns s.bs r) t q),ts:=S.ts++[(f:Int)]++[(g:Int)]}:=by
 have b:=lA d e;have a:(cA S f).hs[g]?=some t:=by rw[b];show (S.hs.set f _)[g]?=_;rw[List.getElem?_set_ne n];exact c
 refine⟨a,?_⟩;rw[lA a eq,b]
theorem Qc{f g:Nat}{s t:bO}{r q:Rw}(n:f≠g)(b:S.hs[f]?=some s)(c:s.rws[s.pos]?=some r)(a:S.hs[g]?=some t)(eq:t.rws[t.pos]?=some q)(ap:apart r q):
 (cA (cA S f) g).ns=(cA (cA S g) f).ns/\(cA (cA S f) g).hs=(cA (cA S g) f).hs:=by
 rw[(nU n b c a eq).2,(nU n.symm a eq b c).2];refine⟨ap.cells,?_⟩;show (S.hs.set f _).set g _=(S.hs.set g _).set f _;unfold lU;rw[ap.boxes,ap.symm.boxes,List.set_comm _ _ n]
end Prf
namespace L2
open PySem
def nw(H H':Hp):Hp:=λx=>match H x with
 | none=>H' x
 | some _=>none
theorem DW{x:Addr}{o:HO}(n:H x=none)(e:H' x=some o):nw H H' x=some o:=by
 unfold nw;rw[n];exact e
theorem Le{x:Addr}{o:HO}(e:nw H H' x=some o):H x=none/\H' x=some o:=by
 unfold nw at e;cases q:H x with
 | none=>rw[q] at e;exact⟨Z,e⟩
 | some u=>rw[q] at e;cases e
theorem YS(H H':Hp):Same (nw H H') H':=λx o e=>(Le e).2
section
variable{Q:VK}{rest:St}{H1:Hp}
def nwB(H1:Hp)(D:Addr)(H:Hp):Hp:=λx=>if x=D then none else nw H1 H x
theorem Oj{H1:Hp}{x:Addr}{o:HO}(e:nwB H1 D H x=some o):x≠D/\H1 x=none/\H x=some o:=by
 unfold nwB at e
 by_cases z:x=D
 .rw[ac_ z] at e;cases e
 .rw[ac9 z] at e;exact⟨z,Le e⟩
theorem Vk{H1:Hp}{x:Addr}{o:HO}(z:x≠D)(n:H1 x=none)(e:H x=some o):nwB H1 D H x=some o:=by
 unfold nwB;rw[ac9 z];exact DW n e
theorem Vj{a:Hp}{o:HO}(s:Same H a):Same (nwB H1 D H) (nwB H1 D (upd a D o)):=λx u e=>by
 obtain⟨z,n,h⟩:=Oj e;exact Vk z n (by rw[aF z];exact s _ _ h)
theorem YT{a:Hp}{o u:HO}(s:Same H1 H)(e:H D=some u):Same (nw H a) (nwB H1 D (upd a D o)):=λx v h=>by
 obtain⟨n,h⟩:=Le h;have z:x≠D:=(aA e n).symm;exact Vk z (s.free n) (by rw[aF z];exact h)
theorem abM:Same (nwB H1 D H) (nw H1 H):=λx o e=>by
 obtain⟨_,n,h⟩:=Oj e;exact DW n h
theorem Ro(f:Nat->PyData)(j:H1 D=none)(l:bG K H1 a xs)(p:xs.length<=100000)(hs:∀i x H (F:VK),xs[i]?=some x->Same H1 H->(∀y H',Same H H'->Dat (nw H H') y (f i)->F y H')->te (some x::rest) H F)(n:∀H,Same H1 H->Dat (nw H1 H) (.ref D) (.list ((List.range xs.length).map f))->Q (.ref D) H):jk (ZR K a) (bU 0) yK te Q D (none::rest) H1:=by
 refine jE (K:=K) (xs:=xs) (λi g H=>(∃v,g=v::rest)/\Same H1 H /\ ∃b,H D=some (.lst b)/\aR (nwB H1 D H) b ((List.range i).map f)) ⟨⟨none,Z⟩,aH j,[],ak,by simp[aR]⟩ (λi g H _ ⟨_,c,_⟩=>c.sqL _ _ l) ?_ (λg H ⟨_,c,b,e,d⟩=>n H c (jc (DW j e) (d.same abM _)));rintro i x g H k ⟨⟨v,rfl⟩,c,b,e,d⟩;have m:i<xs.length:=(aak.mp k).1;refine hs i x H _ k c λy r h o=>?_;have q:b.length=i:=by rw[d.length];simp
 refine⟨b,h _ _ e,?_,⟨_,Z⟩,(c.trans h).newly j,b++[y],ak,?_⟩
 .rw[sizeLine_eq];lia
 .rw[List.range_succ,ab1]
  exact iW (d.same (Vj h) _) (o.same (YT c e) _)
end
end L2
namespace PySem.W
open PySem PySem.Spec PySem.Calls PyProof.Rows
def Zq(K:Frag)(C:Addr):Bool:=match K.lookup C with
 | some ⟨.type "type",_,.cls cd,sl⟩=>(match cd.mro,sl.toList with
   | .ref a::bm,[_,_,_,_,some (.builtin n),_]=>a==C&&(n == "ValueError.__new__" && (!cd.hasDel&&(bm.contains (.type "ValueError")&&(bm.contains (.type "BaseException")&&(!bm.contains (.type "AttributeError") && !bm.contains (.type "NameError"))))))
   | _,_=>false)
 | _=>false
structure XJ(h:Heap)(C:Addr)(ob:Obj)(bm:zzt):Prop where
 at_:h.get? C=some ob
 ex:∃nm q N bs hdct sn sub ab col dd k0 k1 k2 k3 k5,ob=excClassObj nm q C N bs bm hdct sn sub ab col dd k0 k1 k2 k3 k5 "ValueError.__new__"
 v:bm.contains (.type "ValueError")=true
 b:bm.contains (.type "BaseException")=true
 a:bm.contains (.type "AttributeError")=false
 n:bm.contains (.type "NameError")=false
theorem Z1{K:Frag}{h:Heap}(X:K.In h)(q:Zq K C=true):∃ob bm,XJ h C ob bm:=by
 unfold Zq at q;split at q
 .rename_i F p s0 d
  split at q
  .rename_i G c v u t s nn r em a
   simp only[acg,beq_iff_eq,Bool.not_eq_true'] at q;obtain⟨o,n,b,m,k,j,i⟩:=q;subst o n;obtain⟨E,D,B,A,z,y,x,f8,w,f,e⟩:=p;dsimp only at em b;subst em b
   have g:s0 = #[v,u,t,s,some (.builtin "ValueError.__new__"),r]:=by
    obtain⟨l⟩:=s0;simp only at a;rw[a]
   subst g;exact⟨_,c,X _ _ d,⟨_,_,_,_,_,_,_,_,_,_,_,_,_,_,_,Z⟩,m,k,j,i⟩
  .cases q
 .cases q
section
variable{prog:Program}{h:Heap}{g:Array GenState}{d:Drawn}{t:Nat}{os:OsState}{bm:zzt}
abbrev uI(rest:zzt):Obj:={cls:= .type "tuple",data:= .seq rest.toArray}
abbrev xNew(C T:Addr):Obj:={cls:= .ref C,data:= .fields #[.ref T,.none,.none,.none,.bool false,.none]}
theorem RZ{M:Model}(J:XJ h C ob bm){rest:zzt}{Q:zzu}(f:Q () ⟨h,g,d,t,os⟩):
 wpAny M A (checkBuiltinCall "ValueError.__new__" ⟨.ref C::rest,[]⟩) Q E ⟨h,g,d,t,os⟩:=by
 have b:=F.excBase_ValueError;obtain⟨a,⟨nm,q,N,bs,c,sn,sub,s,col,r,m,l,k,j,i,rfl⟩,e,o,p,n⟩:=J;have yes:(Value.ref C::bm).contains (.type "ValueError")=true:=by rw[List.contains_cons,e,Bool.or_true]
 have star:=b.noStar;simp only[checkBuiltinCall,b.newKind,b.newSplit,b.newRow]
 repeat (first
  | refine wpAny_loadPart_at a ?_
  | (refine wpAny_isSubtype_exc a ?_;rw[yes])
  | refine wpAny_staticBase_exc a ?_
  | refine wpAny_madeBy_exc a ?_
  | simp only[bne_self_eq_false,Bool.false_eq_true,if_false]
  | wp_step)
 exact f
theorem aaM{R:Result->Shared->Prop}(J:XJ h C ob bm){rest:zzt}(l:R (.ok (.ret (.ref (h.objs.size+1)))) ⟨(h.push (uI rest)).push (xNew C h.objs.size),g,d,t,os⟩)(b:rest.length<=sizeLine):
 codeAny (model prog w) A (.builtin "ValueError.__new__" ⟨.ref C::rest,[]⟩) R ⟨h,g,d,t,os⟩:=by
 have a:=F.excBase_ValueError;obtain⟨c,⟨nm,q,N,bs,e,sn,sub,z,col,y,v,u,s,r,o,rfl⟩,k,x,n,m⟩:=J;have ends:=a.ends;have j:(Value.ref C::bm).contains (.type "ValueError")=true:=by rw[List.contains_cons,k,Bool.or_true]
 have i:(Value.ref C::bm).contains (.type "AttributeError")=false:=by rw[List.contains_cons,n];rfl
 have f:(Value.ref C::bm).contains (.type "NameError")=false:=by rw[List.contains_cons,m];rfl
 refine codeAny_builtinAt a.entry ?_;unfold Builtin.«BaseException.__new__»;refine wpAt_bind ?_;show wpAt _ _ _ (stack >>= _) _ _ _;refine wpAt_bind (wpAt_stack λp below=>wpAt_of_wpAny ?_)
 wp_walk
 refine wpAt_of_wpAny ?_;rw[a.owner]
 repeat (first
  | with_reducible refine wpAny_madeHere_exc a.canon c ?_
  | with_reducible refine wpAny_loadPart_at c ?_
  | (with_reducible refine wpAny_isSubtype_exc c ?_;first |rw[j]|rw[i]|rw[f])
  | wp_step)
 show R _ _;rw[Heap.size_push];exact l
theorem Xe{R:Result->Shared->Prop}(J:XJ h C ob bm){rest:zzt}(hi:Looks (model prog w) h (typeLookup (.ref C) "__init__") (some (.ref f)))(D:∀self,Looks (model prog w) h (bindSpecial (.ref f) self) (.ref f,[self]))(a:rest.length<=sizeLine)(y:codeAny (model prog w) (A.under (.builtin "type.__call__" ⟨.ref C::rest,[]⟩)) (.call (.ref f) ⟨.ref (h.objs.size+1)::rest,[]⟩) (InitBack (h.objs.size+1) R) ⟨(h.push (uI rest)).push (xNew C h.objs.size),g,d,t,os⟩):
 codeAny (model prog w) A (.call (.ref C) ⟨rest,[]⟩) R ⟨h,g,d,t,os⟩:=by
 have n:=J;obtain⟨c,⟨nm,q,N,bs,m,sn,sub,ab,col,X,O,M,L,K,I,rfl⟩,P,B,T,Q⟩:=J;have W:=tc_lookup;have V:=tc_bind (.ref C);have ty:(⟨h,g,d,t,os⟩:Shared).TypeIs (.ref C) "type" :=⟨_,c,Z⟩;refine codeAny_of_tree ?_;show wpAny _ _ (callAny (.ref C) _) _ _ _
 repeat (any_goals (first
  | assumption
  | with_reducible refine wpAny_loadPart_at c ?_
  | wp_step))
 refine⟨Z,?_⟩;refine codeAny_call_builtin_at (Code.quiet_builtin _ (by decide +kernel)) entry_typeCall (wpAny_check_type_call_sub c ?_)
 repeat (first
  | with_reducible refine wpAny_loadPart_at c ?_
  | with_reducible refine wpAny_madeBy_exc c ?_
  | wp_step)
 refine codeAny_call_builtin_code (Code.quiet_builtin _ F.excBase_ValueError.quiet) (RZ n ?_);refine aaM n ?_ a;show wpAny _ _ _ _ _ _;have i:∀b o,h.get? b=some o->((h.push (uI rest)).push (xNew C h.objs.size)).get? b=some o:=λb o e=>aan _ (aan _ e);have x:((h.push (uI rest)).push (xNew C h.objs.size)).get? (h.objs.size+1)=some (xNew C h.objs.size):=by heap_get
 have j:=i _ _ c;have self:(Value.ref C::bm).contains (.ref C)=true:=by simp
 have u:=hi.keeps i;have G:=(D (.ref (h.objs.size+1))).keeps i;have t1:Looks (model prog w) ((h.push (uI rest)).push (xNew C h.objs.size)) (typeOf (.ref (h.objs.size+1))) (.ref C):=(Looks.ld x).andThen .now
 have p:Looks (model prog w) ((h.push (uI rest)).push (xNew C h.objs.size)) (isSubtype (.ref C) (.ref C)) true:=λA' Q' E' l k z=>by
  obtain⟨S,U,Y,H,s⟩:=l;refine wpAny_isSubtype_exc (k _ _ j) ?_;rw[self];exact z
 show wpAny _ _ (isInstance (.ref (h.objs.size+1)) (.ref C) >>= _) _ _ ⟨(h.push (uI rest)).push (xNew C h.objs.size),g,d,t,os⟩;unfold isInstance;refine aax (aax (t1.here (p.here ?_)));simp only[Bool.not_true,Bool.false_eq_true,if_false];refine aax (wpAny_holding ?_);show wpAny _ _ (callSpecial? (.ref (h.objs.size+1)) "__init__" rest []) _ _ _;unfold callSpecial? specialOf;refine aax (aax (t1.here (u.here ?_)));refine wpAny_holding (aax (G.here ?_));refine aax (wpAny_call ?_);refine codeAny_mono (show codeAny (model prog w) (A.under (.builtin "type.__call__" ⟨.ref C::rest,[]⟩)) (.call (.ref f) ⟨.ref (h.objs.size+1)::rest,[]⟩) (InitBack (h.objs.size+1) R) ⟨(h.push (uI rest)).push (xNew C h.objs.size),g,d,t,os⟩ from y) λr l z=>?_;cases r with
 | error e=>exact z
 | ok E=>
   cases E with
   | ret v=>
     obtain⟨rfl,z⟩:=z;exact aay (aay z)
   | next=>exact z.elim
   | brk=>exact z.elim
   | cont=>exact z.elim
theorem RX{M:Model}{x:Sem Value}{Q:Flow->Shared->Prop}(m:A.handled=none)(h:wpAny M A x (λv a=>∃e oe ob bm vs,v=.ref e/\XJ a.heap C ob bm/\a.heap.get? e=some oe/\oe.cls=.ref C/\oe.data=.fields vs/\vs[1]?=some .none/\E (.ref e) a) E s):
 wpAny M A (raiseStmt env (some x) none) Q E s:=by
 unfold raiseStmt;refine aax (wpAny_mono h (λv a b=>?_) λ_ _ x=>x);obtain⟨e,oe,ob,bm,vs,rfl,⟨j,⟨nm,q,N,bs,c,sn,sub,L,col,K,F,D,B,z,y,rfl⟩,G,o,J,I⟩,n,i,f,r,p⟩:=b;obtain⟨H,g,d,t,os⟩:=a;obtain⟨w,u,l,k⟩:=oe;simp only at i f;subst i f;have yes:(Value.ref C::bm).contains (.type "BaseException")=true:=by rw[List.contains_cons,o,Bool.or_true]
 repeat (first
  | with_reducible refine wpAny_loadPart_at n ?_
  | with_reducible refine wpAny_loadPart_at j ?_
  | (with_reducible refine wpAny_isSubtype_exc j ?_;rw[yes])
  | wp_step)
 rw[r];refine aay ?_;rw[ac9 (by decide)];exact aay (wpAny_raiseNew_none m p)
end
end PySem.W
namespace PySem.W
open PySem PySem.Spec PySem.Calls PyProof.Rows Builtin Builtin.ObjectAttr
def zx:List Value->Bool
 | .ref _::r=>zx r
 | l=>l==[.type "ValueError",.type "Exception",.type "BaseException",.type "object"]
theorem KZ(self:Value){l:zzt}(e:zx l=true):refuseLoop self "__setattr__" l=pure ():=by
 induction l with
 | nil=>cases e
 | cons v r a=>
   cases v<;>first
    | (rw[refuseLoop_ref];exact a e)
    | (cases (beq_iff_eq.mp e:(_:zzt)=_);done)
    | (rw[(beq_iff_eq.mp e:(_:zzt)=_)];exact F.store_ValueError.passes self)
structure XSa(K:Frag)(C:Addr):Prop where
 sa:findIn K (.ref C) "__setattr__" = some (some (.builtin "object.__setattr__"))
 mo:mroIn K C (.type "object")=some true
 cl:((clsIn K C).any λcd=>cd.hasDict&&zx cd.mro)=true
section
variable{prog:Program}{K:Frag}{e:Addr}{vs:Array Value}{v:Value}
theorem aaL{Q:zzu}(X:K.In s.heap)(x:XSa K C)(B:findIn K (.ref C) name=some none)(he:s.heap.get? e=some oe)(r:oe.cls=.ref C)(n:oe.dict=none)(i:oe.data=.fields vs)(h:∀h',h'.get? e=some {oe with dict:=some s.heap.objs.size}->h'.Ns1 s.heap.objs.size (λy=>if y=name then some v else none)->(∀b o,b≠e->s.heap.get? b=some o->h'.get? b=some o)->Q () {s with heap:=h',toks:=s.toks+2}):
 wpAny (model prog w) A (setAttr (.ref e) name v) Q E s:=by
 have I:InstAt s.heap e oe C none:=⟨he,r,by
  obtain⟨S,R,P,u⟩:=oe;simp only at i;subst i;rfl,by rw[n];trivial⟩
 refine set_plain X I x.sa ?_;have g:=F.store_object;obtain⟨cd,f,H⟩:=any_some x.cl;obtain⟨L,J⟩:=Bool.and_eq_true_iff.mp H;have sub:Looks (model prog w) s.heap (isInstance (.ref e) (.type "object")) true:=I.type.andThen (looks_mroIn X x.mo);refine codeAny_call_builtin g.slot.plain g.entry (@check_slot (model prog w) _ _ {s with toks:=s.toks+1} "object.__setattr__" "object" "__setattr__" (.ref e) [.str name s.toks,v] [] _ g.kind g.split sub (g.args (.ref e) (.str name s.toks) v) ?_);have D:Looks (model prog w) s.heap (mroOf (.ref C)) cd.mro:=(looks_clsIn X f).andThen .now;rw[osa_eq,refuse_eq];refine aax (aax (Looks.here (s:={s with toks:=s.toks+1}) I.type (aax (Looks.here (s:={s with toks:=s.toks+1}) D ?_))));rw[KZ _ J];refine aay (aax (Looks.here (s:={s with toks:=s.toks+1}) I.type (aax (Looks.here (s:={s with toks:=s.toks+1}) (looks_findIn X B) ?_))));refine aax (Looks.here (s:={s with toks:=s.toks+1}) (.now:Looks (model prog w) s.heap (storeTaker? none) none) ?_);obtain⟨S,R,P,u⟩:=oe;simp only at r n i;subst r n i;refine aax (aay (aax (aax (wpAny_loadPart he (aax (Looks.here (s:={s with toks:=s.toks+1}) (looks_clsIn X f) ?_))))));rw[L];have a:e≠s.heap.objs.size:=abX (aap he);have d:=aan {cls:= .type "dict",data:= .dict #[]} he;refine aax (wpAny_alloc' ?_);refine aax (wpAny_update' d ?_);refine aay ?_;show wpAny _ _ (storeInDict s.heap.objs.size (.str name s.toks) name v) _ _ _;unfold storeInDict newKeyGuard;generalize t:((s.heap.push {cls:= .type "dict",data:= .dict #[]}).update e λo=>{cls:=o.cls,dict:=some s.heap.objs.size,data:=o.data,slots:=o.slots})=G
 have M:G.get? s.heap.objs.size=some {cls:= .type "dict",data:= .dict #[]}:=by
  rw[←t];exact(Heap.get?_update_ne _ _ _ _ a.symm).trans (Heap.get?_push_at rfl rfl)
 have ge:G.get? e=some {cls:= .ref C,dict:=some s.heap.objs.size,data:= .fields vs,slots:=u}:=by
  rw[←t];exact Heap.get?_update_self _ d rfl
 have go:∀b o,b≠e->s.heap.get? b=some o->G.get? b=some o:=λb o j q=>by
  rw[←t];exact(Heap.get?_update_ne _ _ _ _ j).trans (aan _ q)
 have l:G.Ns s.heap.objs.size (λ_=>none):=⟨_, #[],_,M,Z,λe he=>ac' he (by simp),λ_=>rfl⟩;refine aax (aay (aax (wpAny_nsSet1 (Heap.Ns1.of_empty l) λh' c z=>?_)));obtain⟨oD,N,O,k,m,p⟩:=c.count (Within.cons name v Within.nil);refine aax (wpAny_lookBehind k (by rw[m];exact pastItsLine_dict (ac5 p (by rw[ac1,List.length_nil,sizeLine_eq];lia))) ?_);exact aay (h h' ((z.2 e a).trans ge) c λb o j q=>(z.2 b (abX (aap q))).trans (go b o j q))
theorem aaN(X:K.In s.heap)(I:InstAt s.heap e oe C odo)(c:findIn K (.ref C) "__getattribute__" = some (some (.builtin "BaseException.__getattribute__")))(j:findIn K (.ref C) "__getattr__" = some none)(m:mroIn K C (.type "BaseException")=some true)(l:findObj K C odo name=some (.value v))(i:handedIn v=true)(h:Q v {s with toks:=s.toks+1}):
 wpAny (model prog w) A (getAttr (.ref e) name expr) Q E s:=by
 obtain⟨k,g,d,t,os⟩:=s;have f:=I.type (M:=model prog w);have p:=looks_findIn (M:=model prog w) X c;have L2:=looks_findIn (M:=model prog w) X j;have o:=looks_find (M:=model prog w) X I l;have a:(Value.builtin "BaseException.__getattribute__" == Value.builtin "object.__getattribute__")=false:=by decide +kernel
 have n:=(F.attr_Exception.ga).bind (.ref e);have b:(expr&&onTheHeap (Value.builtin "BaseException.__getattribute__"))=false:=by cases expr<;>rfl
 unfold getAttr getAttrBy;refine aax (wpAny_mkText (wpAny_holding (aax (f.at (aax (p.at ?_))))));simp only[a,Bool.and_false,Bool.false_eq_true,if_false];unfold getAttrByItsOwn hookBefore;show wpAny _ _ (typeLookup (.ref C) "__getattr__" >>= _) _ _ _;refine aax (L2.at ?_);refine aax (wpAny_attempt (wpAny_holding ?_));unfold callGetattribute boundAndCalled;rw[b,ac9 (by decide)];refine aax (wpAny_of_eq n ?_);refine wpAny_call (codeAny_call_builtin (F.attr_Exception.ga).plain F.entry_bexc_ga (Em (s:=⟨k,g,d,t+1,os⟩) X I m ?_));show wpAny _ _ (Builtin.«object.__getattribute__» ⟨[.ref e,.str name t],[]⟩) _ _ _;unfold Builtin.«object.__getattribute__»;refine aax (aay ?_);refine aax (aay ?_);refine aax (f.at (aax (o.at ?_)));refine aay ?_;exact handed_on i h
end
end PySem.W
namespace L2
open PySem PySem.Spec PyProof.Rows
def Pz(C:Addr)(a:Option Addr)(e:Addr):HO:= .ext λh=>∃oe vs,h.get? e=some oe/\oe.cls=.ref C/\oe.dict=a/\oe.data=.fields vs/\vs[1]?=some .none
theorem Vi{h:Heap}{e:Addr}(x:∃oe vs,h.get? e=some oe/\oe.cls=.ref C/\oe.dict=dx/\oe.data=.fields vs/\vs[1]?=some .none):dM P w H h e (Pz C dx e):=by
 obtain⟨oe,vs,q,r⟩:=x;exact⟨⟨oe,vs,q,r⟩,⟨oe,q⟩,λf d ⟨c,v1,b,a⟩ k=>⟨c,v1,k _ b,a⟩⟩
section
variable{e:Addr}
theorem Inv.Xm(I:Inv X pins σ (upd H e (.ext φ)) s)(he:H e=none):Inv X pins σ H s:=by
 have nn:∀b o,(upd H e (.ext φ)) b=some o->(∀d,o ≠ .ext d)->H b=some o:=λb o q n=>by
  by_cases z:b=e
  .rw[z,ak] at q;exact ac' (abe q).symm (n φ)
  .rw[aF z] at q;exact q
 have no:∀b,(upd H e (.ext φ)) b=none->H b=none:=λb q=>by
  by_cases z:b=e
  .rw[z,ak] at q;cases q
  .rw[aF z] at q;exact q
 refine⟨I.ok,I.os,I.bare,⟨I.base.keep,I.base.slot,λb o q n i=>no b (I.base.free b o q n i),I.base.there,λb f q=>nn _ _ (I.base.tups b f q) (by intro d z;cases z),λb o u q=>nn _ _ (I.base.vN b o u q) (by intro d z;cases z),λb g q=>?_⟩,I.loc,I.cell,no _ I.free,λx c q=>no _ (I.jr x c q),λp h=>?_,λa o q=>?_,I.len⟩
 .obtain⟨more,r⟩:=I.base.wQ b g q
  exact⟨more,nn _ _ r (by intro d z;cases z)⟩
 .obtain⟨l,k,j⟩:=I.pin p h
  exact⟨l,no _ k,j⟩
 .have na:a≠e:=aA q he
  refine(I.hok a o (by rw[aF na];exact q)).stay (λ_ _ _ z=>z) (λb z=>nn _ _ z (by intro d z;cases z)) λb m z=>nn _ _ z (by intro d z;cases z)
end
def adY(K:zzy)(b a:TE)(f:Str):TS:=λD σ H=>a σ H λy H1=>b σ H1 λx H2=>∃e C,x=.ref e/\H2 e=some (Pz C none e)/\W.XSa K C/\eX K C f /\ ∀d,H2 d=none->D.nx σ (upd (upd H2 d (.xd [(f,y)])) e (Pz C (some d) e))
section
variable{o:Expr}{f:Str}
theorem Yk(Q:X.K=K)(P:PE X o ta)(N:PE X value tv)(hs:swapsWith value (some (.Attribute o f pos')) pos.line X.env=pure false):PS X (.Assign [.Attribute o f pos'] value pos) (adY K ta tv f):=by
 subst Q;intro d s l H D I h;refine plainObj_wpAny_Assign_Attribute (dG (N d s l H _ I h) λu B ⟨y,H1,I1,E,q⟩=>dG (P d B l H1 _ I1 q) λJ c ⟨x,H2,k,F,e,C,ex,v,w,na,q2⟩=>?_) hs;subst ex;obtain rfl:J=Value.ref e:=F;obtain⟨⟨oe,A,p,t,O,n,R⟩,_⟩:=(show dM X.prog X.w H2 c.heap e (Pz C none e) from k.hok e _ v);refine W.aaL k.oH w na p t O n λh' ge S go=>?_;have L:=k.hok.fresh (aaw c.heap.objs.size);have m:e≠c.heap.objs.size:=abX (aap p);refine⟨l,_,?_,q2 _ L⟩;obtain⟨i,U,V,j,r⟩:=id S
 have T:i.isFreed=false:=by
  cases q:i.isFreed with
  | false=>rfl
  | true=>exact ac' ((Heap.get?_some_iff.mp j).2) (by rw[q];decide)
 have G:(c.heap.push i).get? c.heap.objs.size=some i:=aao _ T
 have J1:=k.laid (a:=c.heap.objs.size) (o:= .xd [(f,y)]) (h':=c.heap.push i) (t':=c.toks) (λb u q=>aan _ q) (aaw _) ⟨_,⟨i,U,V,G,r⟩,λg=>by
  show nP (List.lookup g [(f,y)]) (if g=f then some u else none)
  by_cases z:g=f
  .subst z
   rw[ac_ rfl,show List.lookup g [(g,y)]=some y by simp[List.lookup]];exact E
  .rw[ac9 z]
   have:(g==f)=false:=by simpa using z
   simp only[List.lookup,this];trivial⟩
 have Y:=J1.write (x:=e) (e:=e) (o:=Pz C (some c.heap.objs.size) e) (h':=h') (t':=c.toks+2) (by rw[aF m,v];exact True.intro) (.inl rfl) (λb u M q=>?_) ⟨_,ge⟩ (Vi ⟨_,A,ge,t,Z,n,R⟩)
 .exact Y
 .rcases Heap.get?_push_cases q with ⟨rfl,rfl⟩|q
  .exact j
  .exact go b u M q
end
def PB(P:Program)(w:World)(K:zzy)(mg:zzv)(base:Heap)(k:Nat)(C:Addr)(x:Str)(ps:List Str)(sp:Sp):Prop:=
 ∃f fd,bR P w K mg base iB k f fd ps sp/\W.findIn K (.ref C) "__init__" = some (some (.ref f))/\W.typeIn K (.ref f)=some (.type "function")/\W.Zq K C=true/\mg x=some (.ref C)/\W.keepIn K (.ref C)=true/\Binds K fd ps []
theorem Qn(M:PB X.prog X.w X.K X.mg X.base k C x ps sp)(z:X.ex=[])(A:fJ (k+1) X.A)(I:Inv X pins σ H s)(r:Vals vs us)(B:vs.length<=sizeLine)(h:∀e,H e=none->sp (.ref e::vs) (upd H e (Pz C none e)) (λv H2=>v=.non/\G e H2) E0):
 wpAny (model X.prog X.w) X.A (call (.ref C) us) (λv w=>∃e H2,v=.ref e/\EY X pins H e/\Inv X pins σ H2 w/\G e H2) X.xe s:=by
 obtain⟨f,fd,F,E,K,D,U,Y,L⟩:=M;have fr:s.heap.get? (s.heap.objs.size+1)=none:=Heap.get?_none_of_le (Nat.le_succ _);have p:=I.xfp z fr;have q:=h _ p.1;have T:∀b o,s.heap.get? b=some o->((s.heap.push (W.uI us)).push (W.xNew C s.heap.objs.size)).get? b=some o:=λb o e=>aan _ (aan _ e)
 have N:((s.heap.push (W.uI us)).push (W.xNew C s.heap.objs.size)).get? (s.heap.objs.size+1)=some (W.xNew C s.heap.objs.size):=by
  have:=aao (s.heap.push (W.uI us)) (o:=W.xNew C s.heap.objs.size) rfl;rwa [Heap.size_push] at this
 have P:Inv X pins σ H {s with heap:=s.heap.push (W.uI us)}:=I.kept (t':=s.toks) λb o e=>aan _ e
 have l:Inv X pins σ (upd H (s.heap.objs.size+1) (Pz C none (s.heap.objs.size+1))) {s with heap:=(s.heap.push (W.uI us)).push (W.xNew C s.heap.objs.size)}:=
  P.laid (a:=s.heap.objs.size+1) (o:=Pz C none (s.heap.objs.size+1)) (t':=s.toks) (λb o e=>aan _ e) (Nat.le_of_eq (Heap.size_push _ _)) (Vi ⟨_,_,N,Z,Z,Z,Z⟩)
 have m:Vals (V.ref (s.heap.objs.size+1)::vs) (Value.ref (s.heap.objs.size+1)::us):= .cons rfl r;have i:(Value.ref (s.heap.objs.size+1)::us).length=ps.length:=by rw[←m.length];exact F.len _ _ _ _ q
 have j:=L {s with heap:=(s.heap.push (W.uI us)).push (W.xNew C s.heap.objs.size)} (Value.ref (s.heap.objs.size+1)::us) l.oH (by rw[List.append_nil];exact i);rw[List.append_nil] at j;obtain⟨S,bm,J⟩:=W.Z1 I.oH D;obtain⟨n,g,d,t,os⟩:=s;refine wpAny_call (W.Xe J (W.looks_findIn I.oH E) (λself=>W.bind_fn I.oH self K) (by rw[←r.length];exact B) (codeAny_mono (F.run _ X.stack _ _ ⟨Value.ref (n.objs.size+1)::us,[]⟩ (Value.ref (n.objs.size+1)::us) _ _ E0 (A.make C us []) (l.env0.make C us []) j m q) λres R c=>?_))
 match res,c with
 | .error ev,c=>exact c.elim
 | .ok (.ret u),c=>
   obtain⟨v,Q,O,y,ev,q3⟩:=l.after c;subst ev;exact⟨y,⟨_,Q,Z,p,O,q3⟩⟩
def Xy(C:Addr)(sp:Sp)(E:St->XK)(t:TA):TS:=λ_ σ H=>t σ H λvs H1=>vs.length<=sizeLine /\ ∀e,H1 e=none->sp (.ref e::vs) (upd H1 e (Pz C none e)) (λv H2=>v=.non /\ ∃d a,H2=upd a e (Pz C (some d) e)/\a e=none/\E σ (.ref C) (some d) a) E0
section
variable{t:TA}{p:Pos}{E:St->XK}
theorem Qp(M:PB X.prog X.w X.K X.mg X.base k C x ps sp)(B:X.ex=[])(T:X.calm=true)(R:Rz X E)(K:fJ (k+1) X.A)(S:Gl X x)(U:PA X (e::es) t)(hdb:(x==("__debug__" :Str))=false:=by decide)(he:starEach (e::es) X.env=(false,eval e X.env)::starEach es X.env:=by rfl)(hpl:(backTo cpos (starEach es X.env)).any (·.1)=false:=by rfl):
 PS X (.Raise (some (.Call (.Name x p) (e::es) [] cpos)) none pos) (Xy C sp E t):=by
 have L:=M;obtain⟨f,fd,F,hi,hf,P,hmg,O,hb⟩:=L;intro a s j H D I h;rw[arm_exec_Raise];refine aax (wpAny_standAt ?_);simp only[evalOpt,Option.map];refine W.RX (C:=C) (I.ok.hd T) (aax (wpAny_mono (Q:=λv g=>∃e b m bm l,v=.ref e/\W.XJ g.heap C m bm/\g.heap.get? e=some b/\b.cls=.ref C/\b.data=.fields l/\l[1]?=some .none/\X.xe (.ref e) g) ?_ (λv g z=>aax (wpAny_standAt (aay z))) λ_ _ z=>z));refine wpAny_Call_Name_kw (pC I S hmg ?_ hdb);refine W.callWith_K (h₀:=X.base) I.ok.mod.VB O (dG (U cpos a s j H _ I h) λus g ⟨l,H1,A,r,N,q⟩=>⟨A.oH,?_⟩) he hpl;refine wpAny_mono (Qn (G:=λe H2=>∃d i,H2=upd i e (Pz C (some d) e)/\i e=none/\E j (.ref C) (some d) i) M B K A r N q) (λv o ⟨e,H2,ev,V,n,d,i,Y,y,q3⟩=>?_) λ_ _ z=>z;subst ev Y;obtain⟨⟨b,c,g1,g2,g3,w,u⟩,_⟩:=(show dM X.prog X.w _ o.heap e (Pz C (some d) e) from n.hok e _ ak);obtain⟨m,bm,J⟩:=W.Z1 n.oH P;have I3:=n.Xm y;exact⟨e,b,m,bm,c,Z,J,g1,g2,w,u,R a j i o e (.ref C) (some d) none (.inl rfl) I3 ⟨y,V.2⟩ ⟨b,c,g1,g2,g3,w,u⟩ q3⟩
end
def XAt(H:Hp)(e C:Addr)(a:List (Str×V)):Prop:=(H e=some (XO C none e)/\a=[]) \/ ∃d,H e=some (XO C (some d) e)/\H d=some (.xd a)
def adG(K:zzy)(b:TE)(f:Str):TE:=λσ H Q=>b σ H λx H1=>∃e C d a v,x=.ref e/\H1 e=some (XO C (some d) e)/\H1 d=some (.xd a)/\W.WL K C/\W.hasDictIn K C=true/\eX K C f/\a.lookup f=some v/\Q v H1
section
variable{f:Str}
theorem MK{e':Addr}{b:List (Str×V)}(I:Inv X pins σ H s)(he:H e'=some (XO C (some d) e'))(j:H d=some (.xd b)):∃(ox od:Obj) (mA:zzv),W.InstAt s.heap e' ox C (some od)/\(∀f,nP (b.lookup f) (mA f)) /\ ∀name,W.lookIn name od=some (mA name):=by
 obtain⟨⟨c,l,q,k,a,i⟩,_⟩:=(show dM X.prog X.w H s.heap e' (XO C (some d) e') from I.hok e' _ he);obtain⟨mA,e,r⟩:=(show dM X.prog X.w H s.heap d (.xd b) from I.hok d _ j);obtain⟨od,g,h⟩:=Ea e;exact⟨c,od,mA,⟨q,k,tO i,by rw[a];exact g⟩,r,h⟩
theorem Ys(z:X.K=K)(he:PE X e ta)(y:attributeBase e f X.env (eval e X.env)=eval e X.env):PE X (.Attribute e f pos) (adG K ta f):=by
 subst z;intro b s j H Q I h;refine Pu y (dG (he b s j H _ I h) λu F A=>?_);obtain⟨x,H1,g,k,a,C,d,M,v,ex,D,B,c,w,n,l,q⟩:=A;subst ex;obtain rfl:u=Value.ref a:=k;obtain⟨G,L,m,J,r,t⟩:=MK g D B;obtain⟨E,p,i⟩:=nP.some_of (v:=v) (o:=m f) (by rw[←l];exact r f);exact W.aaN g.oH J c.hga c.hk c.hB (W.findObj_own w n rfl (by rw[t,p])) (Eh i) ⟨v,H1,g.tok _,i,q⟩
theorem Sd{e':Addr}{c:List (Str×V)}(I:Inv X pins σ H s)(x:XAt H e' C c):∃ox odo,W.InstAt s.heap e' ox C odo:=by
 rcases x with ⟨h,_⟩|⟨d,h,b⟩
 .exact Xd (I.hok e' _ h)
 .obtain⟨ox,a,_,J,_⟩:=MK I h b
  exact⟨ox,some a,J⟩
theorem J0{c:Value}(j:X.K=K)(rc:∀u,RelV cv u->u=c):jt X (.builtin "isinstance") (λxs H Q=>∃(e C:Addr) (d:List (Str×V)) (b:Bool),xs=[.ref e,cv]/\XAt H e C d/\W.WL K C/\W.kitOne K (.ref C) c=some b/\Q (.bl b) H):=by
 subst j;intro a s m H xs o Q I r h;obtain⟨e,C,d,b,rfl,k,f,l,q⟩:=h;obtain⟨u,n,rfl,i,g⟩:=vals2 r;cases (show u=Value.ref e from i);have:=rc _ g;subst this;exact W.kia_one (W.Vy f) I.oH (Sd I k) l (by intro z;cases z) λp=>⟨.bl b,H,I.tok _,Z,q⟩
end
structure Xf(K:zzy)(mg:zzv)(C:Addr)(nm f:Str):Prop where
 bd:mg nm=some (.ref C)
 hd:XHd K C
 xc:W.WL K C
 ve:W.subIn K (.ref C) (.type "ValueError")=some true
 sa:W.XSa K C
 dc:W.hasDictIn K C=true
 na:eX K C f
end L2
namespace Prf
open PySem L2
structure Tc where
 (k:Nat) (r:Rw) (rd wr:Option Int)
inductive Kr(S:eO)(t:Tc):Prop|m:∀s,S.hs[t.k]?=some s->s.st = "waits" -> s.rws[s.pos]?=some t.r->t.rd=Bg S.ns t.r->t.wr=MN s.bs t.r->Kr S t
def Run:eO->List Tc->eO->Prop
 | S,[],a=>a=S
 | S,t::l,a=>Kr S t/\Run (cA S t.k) l a
structure Kq(S T:eO):Prop where
 m:S.m=T.m
 ns:S.ns=T.ns
 hs:S.hs=T.hs
 ts:S.ts.Perm T.ts
theorem Kq.refl(S:eO):Kq S S:=⟨Z,Z,Z,List.Perm.refl _⟩
theorem Kq.trans{S T U:eO}(a:Kq S T)(b:Kq T U):Kq S U:=⟨a.m.trans b.m,a.ns.trans b.ns,a.hs.trans b.hs,a.ts.trans b.ts⟩
theorem Kr.alk{T:eO}{t:Tc}(h:Kr S t)(a:Kq S T):Kr T t:=by
 obtain⟨s,f,e,d,c,b⟩:=h;exact⟨s,by rw[←a.hs];exact f,e,d,by rw[←a.ns];exact c,b⟩
theorem Kr.turn{t:Tc}(h:Kr S t):∃s,S.hs[t.k]?=some s/\s.rws[s.pos]?=some t.r/\cA S t.k={S with ns:=dU S.ns s.bs t.r,hs:=S.hs.set t.k (lU S.ns s t.r),ts:=S.ts++[(t.k:Int)]}:=by
 obtain⟨s,b,_,a,_⟩:=h;exact⟨s,b,a,lA b a⟩
theorem Sy{T:eO}{t:Tc}(h:Kr S t)(a:Kq S T):Kq (cA S t.k) (cA T t.k):=by
 obtain⟨s,d,c,e⟩:=h.turn;have b:T.hs[t.k]?=some s:=by rw[←a.hs];exact d
 rw[e,lA b c];exact⟨a.m,by show dU _ _ _=dU _ _ _;rw[a.ns],by show List.set _ _ _=List.set _ _ _;rw[a.hs,a.ns],a.ts.append_right _⟩
theorem Run.alk:∀{l:List Tc}{S T b:eO},Run S l b->Kq S T -> ∃T',Run T l T'/\Kq b T'
 | [],S,T,b,h,a=>⟨T,Z,by have h:b=S:=h;rw[h];exact a⟩
 | t::l,S,T,b,⟨h1,c⟩,a=>by
   obtain⟨T',r,d⟩:=Run.alk c (Sy h1 a);exact⟨T',⟨h1.alk a,r⟩,d⟩
theorem Run.det:∀{l:List Tc}{S T T':eO},Run S l T->Run S l T'->T=T'
 | [],S,T,T',h,h'=>by
   have h:T=S:=h;have h':T'=S:=h';rw[h,h']
 | t::l,S,T,T',h,h'=>Run.det h.2 h'.2
theorem Run.app:∀{p q:List Tc}{S d:eO},Run S (p++q) d ↔ ∃T,Run S p T/\Run T q d
 | [],q,S,d=>⟨λh=>⟨S,Z,h⟩,λ⟨T,h1,c⟩=>by have h1:T=S:=h1;rw[h1] at c;exact c⟩
 | t::p,q,S,d=>by
   constructor
   .rintro⟨h1,c⟩
    obtain⟨T,a,b⟩:=Run.app.mp c;exact⟨T,⟨h1,a⟩,b⟩
   .rintro⟨T,⟨h1,a⟩,b⟩
    exact⟨h1,Run.app.mpr ⟨T,a,b⟩⟩
def stepT(x y:Tc):Prop:=x.k=y.k \/ ¬apart x.r y.r
theorem Run.swap{S m:eO}{x y:Tc}{l:List Tc}(n:¬stepT x y)(h:Run S (x::y::l) m):∃f,Run S (y::x::l) f/\Kq m f:=by
 obtain⟨D,C,E⟩:=h;have e:x.k≠y.k:=λz=>n (.inl z);have ap:apart x.r y.r:=Classical.byContradiction λz=>n (.inr z);obtain⟨s,d,B,c,A,w⟩:=id D;obtain⟨t,t1,v,t3,u,q⟩:=id C;have ex:=lA d c
 have b:S.hs[y.k]?=some t:=by
  rw[ex] at t1;have t1:(S.hs.set x.k _)[y.k]?=some t:=t1;rwa [List.getElem?_set_ne e] at t1
 have k:=lA b t3
 have i:Kr S y:=⟨t,b,v,t3,by
  rw[u,ex];exact ap.read,q⟩
 have g:(cA S y.k).hs[x.k]?=some s:=by
  rw[k];show (S.hs.set y.k _)[x.k]?=some s;rw[List.getElem?_set_ne (Ne.symm e)];exact d
 have j:Kr (cA S y.k) x:=⟨s,g,B,c,by
  rw[A,k];exact ap.symm.read.symm,w⟩
 obtain⟨p,o⟩:=Qc e d c b t3 ap
 have al:Kq (cA (cA S x.k) y.k) (cA (cA S y.k) x.k):=by
  refine⟨?_,p,o,?_⟩
  .rw[(nU e d c b t3).2,(nU (Ne.symm e) b t3 d c).2]
  .rw[(nU e d c b t3).2,(nU (Ne.symm e) b t3 d c).2]
   show (S.ts++[(x.k:Int)]++[(y.k:Int)]).Perm (S.ts++[(y.k:Int)]++[(x.k:Int)]);rw[List.append_assoc,List.append_assoc];exact List.Perm.append_left _ (List.Perm.swap _ _ _)
 obtain⟨f,r,a⟩:=E.alk al;exact⟨f,⟨i,j,r⟩,a⟩
theorem Run.front:∀{pre:List Tc}{S b:eO}{x:Tc}{post:List Tc},(∀p∈pre,¬stepT p x)->Run S (pre++x::post) b -> ∃c,Run S (x::(pre++post)) c/\Kq b c
 | [],S,b,x,post,_,h=>⟨b,h,Kq.refl _⟩
 | p::pre,S,b,x,post,n,⟨h1,f⟩=>by
   obtain⟨T,r,a⟩:=Run.front (λq e=>n q (.tail _ e)) f;obtain⟨U,d,g⟩:=Run.swap (n p (.head _)) (show Run S (p::x::(pre++post)) T from ⟨h1,r⟩);exact⟨U,d,a.trans g⟩
inductive Cu(l:List Tc):List Nat->Prop
 | nil:Cu l []
 | snoc {o:List Nat} {a:Nat} {x:Tc} (h:Cu l o) (e:l[a]?=some x) (n:a∉o) (q:∀m y,m<a->l[m]?=some y->stepT y x->m∈o):Cu l (o++[a])
def pick(l:List Tc)(o:List Nat):List Tc:=o.filterMap λi=>l[i]?
def tM(l:List Tc)(o:List Nat):List Nat:=(List.range l.length).filter λi=> !o.contains i
theorem vR{p:Nat->Bool}{a:Nat}:∀n,a<n->p a=true->(List.range n).filter p=(List.range a).filter p++a::((List.range n).filter λi=>p i&&decide (a<i))
 | 0,h,_=>by lia
 | n+1,h,q=>by
   rw[List.range_succ,ac7,ac7];rcases Nat.lt_or_ge a n with l|l
   .have f:List.filter (λi=>p i&&decide (a<i)) [n]=List.filter p [n]:=by
     rw[ac0,ac0];cases p n<;>simp[l]
    rw[vR n l q,f];simp
   .have:a=n:=by lia
    subst this;have e:List.filter p [a]=[a]:=by rw[ac0,ac_ q];rfl
    have d:(List.range a).filter (λi=>p i&&decide (a<i))=[]:=List.filter_eq_nil_iff.mpr λi b z=>by
     have:=acZ.mp b;simp at z;lia
    have c:List.filter (λi=>p i&&decide (a<i)) [a]=[]:=by rw[ac0];simp
    rw[e,d,c];simp
theorem DK{l:List Tc}{o:List Nat}{a:Nat}(g:a<l.length)(n:a∉o):∃pre post,tM l o=pre++a::post/\tM l (o++[a])=pre++post /\ ∀m∈pre,m<a/\m∉o:=by
 have d:(!o.contains a)=true:=by simpa using n
 have e:=vR (p:=λi=> !o.contains i) l.length g d;refine⟨_,_,e,?_,λm f=>?_⟩
 .unfold tM
  have c:∀i,(!(o++[a]).contains i)=((!o.contains i) && !decide (i=a)):=λi=>by
   rw[List.contains_append]
   by_cases q:i=a<;>simp[q]
  have k:(List.range l.length).filter (λi=> !(o++[a]).contains i)=((List.range l.length).filter λi=> !o.contains i).filter λi=> !decide (i=a):=by
   rw[List.filter_filter];refine List.filter_congr λi _=>?_;rw[c,Bool.and_comm]
  rw[k,e,ac7,ac0];simp only[decide_true,Bool.not_true,Bool.false_eq_true,if_false];congr 1
  .exact List.filter_eq_self.mpr λi b=>by
    have:=acZ.mp (acY.mp b).1;simp;lia
  .exact List.filter_eq_self.mpr λi b=>by
    have:=(acY.mp b).2;simp at this ⊢;lia
 .obtain⟨j,h⟩:=acY.mp f
  exact⟨acZ.mp j,by simpa using h⟩
theorem iH(l:List Tc)(a b:List Nat):pick l (a++b)=pick l a++pick l b:=by unfold pick;rw[List.filterMap_append]
theorem gZ{l:List Tc}{a:Nat}{x:Tc}(e:l[a]?=some x)(b:List Nat):pick l (a::b)=x::pick l b:=by
 unfold pick;rw[List.filterMap_cons,e]
theorem TY(l:List Tc):pick l (tM l [])=l:=by
 unfold pick tM;have:(List.range l.length).filter (λi=> !([]:List Nat).contains i)=List.range l.length:=List.filter_eq_self.mpr λi _=>by simp
 rw[this];refine List.ext_getElem? λi=>?_
 have gen:∀n,n<=l.length->(List.range n).filterMap (λi=>l[i]?)=l.take n:=by
  intro n
  induction n with
  | zero=>intro _;rfl
  | succ n a=>
    intro b;rw[List.range_succ,List.filterMap_append,a (by lia),acU];congr 1
 rw[gen _ (aaw _),acS]
theorem Run.other{l:List Tc}{f:eO}(h:Run S l f){o:List Nat}(O:Cu l o):∃T j,Run S (pick l o) T/\Run T (pick l (tM l o)) j/\Kq f j:=by
 induction O with
 | nil=>exact⟨S,f,Z,by rw[TY];exact h,Kq.refl _⟩
 | @snoc o a x O e n q t=>
   obtain⟨T,S1,s,g,al⟩:=t;have v:a<l.length:=(aak.mp e).1;obtain⟨pre,post,z,y,w⟩:=DK v n;rw[z,iH,gZ e] at g
   have np:∀p∈pick l pre,¬stepT p x:=λp i k=>by
    unfold pick at i;obtain⟨m,u,em⟩:=List.mem_filterMap.mp i;obtain⟨lm,nm⟩:=w m u;exact nm (q m p lm em k)
   obtain⟨S2,r,d⟩:=Run.front np g;obtain⟨c,b⟩:=r;refine⟨cA T x.k,S2,?_,by rw[y,iH];exact b,al.trans d⟩;rw[iH,gZ e];exact Run.app.mpr ⟨T,s,c,Z⟩
theorem Run.next{l:List Tc}{f T:eO}(h:Run S l f){o:List Nat}{a:Nat}{x:Tc}(O:Cu l (o++[a]))(e:l[a]?=some x)(r:Run S (pick l o) T):Kr T x:=by
 obtain⟨U,_,b,_,_⟩:=h.other O;rw[iH,gZ e] at b;obtain⟨g,d,c,_⟩:=Run.app.mp b;rw[r.det d];exact c
end Prf
variable{l:List Prf.Tc}
namespace L2
open PySem PySem.Spec PyProof.Rows PySem.W
section
variable{h:Heap}{ps:Array Value}
end
section
variable{params:Arguments}{body:Expr}{scope:Scope}{sp:List V->Hp->VK->Prop}
end
section
variable{q l I S:Addr}
end
section
variable{a:Expr}{ta:TA}{p kp amc:Pos}{params:Arguments}{body:Expr}{scope:Scope}{sp:List V->Hp->VK->Prop}
end
section
variable{mg:zzv}
end
end L2
namespace L2
open PySem PySem.Spec PyProof.Rows
end L2
namespace L2
open PySem PyProof.Rows
theorem HY:∀{ps:List Str}{us:zzt},us.length=ps.length->ps.Nodup->(ps.filter λn=>((ps.zip us).lookup n).isNone)=[]/\(ps.filterMap λn=>((ps.zip us).lookup n).map (n,·))=ps.zip us
 | [],[],_,_=>⟨Z,Z⟩
 | p::ps,u::us,c,d=>by
   rw[List.nodup_cons] at d;obtain⟨h1,h⟩:=HY (ps:=ps) (us:=us) (by simpa using c) d.2
   have e:∀n∈ps,((p::ps).zip (u::us)).lookup n=(ps.zip us).lookup n:=λn f=>by
    rw[List.zip_cons_cons,List.lookup_cons];rw[show (n==p)=false from beq_eq_false_iff_ne.mpr λz=>d.1 (by rw[←z];exact f)]
   have g:((p::ps).zip (u::us)).lookup p=some u:=by rw[List.zip_cons_cons,List.lookup_cons];simp
   constructor
   .rw[ac0,g,ac9 (by simp)]
    rw[←h1];exact List.filter_congr λn f=>by rw[e n f]
   .rw[List.filterMap_cons,g]
    refine congrArg ((p,u) :: ·) (Eq.trans ?_ h);clear h1 h g c;revert e;generalize ((p::ps).zip (u::us))=a;generalize ps.zip us=b;intro e
    induction ps with
    | nil=>rfl
    | cons q ps i=>
      rw[List.filterMap_cons,List.filterMap_cons,e q (by simp),i ⟨λz=>d.1 (by simp[z]),(List.nodup_cons.mp d.2).2⟩ λn f=>e n (by simp[f])]
 | [],_::_,c,_=>by simp at c
 | _::_,[],c,_=>by simp at c
def nM(a:Arguments)(ps:List Str):Bool:=a.posonlyargs.isEmpty&&decide (a.args.map (·.arg)=ps)&&a.vararg.isNone&&a.kwonlyargs.isEmpty&&a.kwarg.isNone&&decide ps.Nodup
theorem Cj(h:nM fd.params ps=true)(e:fd.defaults=.none)(a:us.length=ps.length):bindArgs fd ⟨us,[]⟩=pure (ps.zip us):=by
 unfold nM at h;simp only[acg,decide_eq_true_eq,List.isEmpty_iff,Option.isNone_iff_eq_none] at h;obtain⟨⟨⟨⟨⟨k,j⟩,i⟩,g⟩,f⟩,d⟩:=h;obtain⟨c,b⟩:=HY a d;have l:seqItems? Value.none=pure none:=Z;unfold bindArgs;simp only[k,j,i,g,f,e,l,List.map_nil,List.nil_append,List.append_nil,pure_bind,Option.getD_none];rw[List.forIn_nil,pure_bind];dsimp only;rw[ac9 (by rw[a];simp)];simp only[List.length_nil,Nat.zero_sub,List.drop_nil,Nat.sub_zero,acS,c,List.isEmpty_nil,Bool.not_true,Bool.false_eq_true,if_false,List.zip_nil_right,List.forIn_nil,pure_bind,b,Array.toList_empty]
end L2
namespace L2
open PySem PySem.Spec PyProof.Rows PySem.W
theorem fZ.uy(F:fZ K x qual st f fd)(h:nM (d9 st) ps=true):Binds K fd ps []:=
 F.binds λ_ _ _ _ _ _ _ a=>Cj h rfl a
theorem fZ.bind1{a:Str}(F:fZ K x qual st f fd)(h:nM (d9 st) [a]=true)(s:Shared)(v:Value):BindsTo s fd ⟨[v],[]⟩ [(a,v)]:=by
 obtain⟨g,e,kV,doc,pm,an,d,j,b,rfl,i,c⟩:=F.ex;exact .of_eq (Cj (ps:=[a]) h rfl rfl)
def iV(K:zzy)(x:Str)(st:Stmt):Prop:=∃f fd,nsIn K mainGlobals x=some (some (.ref f))/\fZ K x x st f fd
def iw(K:zzy)(C:Addr)(m q:Str)(st:Stmt):Prop:=∃f fd,(findIn K (.ref C) m=some (some (.ref f))/\isFn K (.ref f)=true)/\fZ K m q st f fd
section
variable{m q:Str}{c:Addr}{kV:Value}
theorem Rg(a:nsIn K mainGlobals x=some (some (.ref f)))(l:K.lookup f=some ⟨oc,od,.func (W.fnOf x x (d9 st) (gH st) (aP st) .none kV doc pm an cdv ct),osl⟩)(c:W.codeIn K cdv x=true)(k:W.keepIn K (.ref f)=true):iV K x st:=⟨_,_,a,V6 l c k⟩
theorem Wj(a:findIn K (.ref C) m=some (some (.ref f)))(l:K.lookup f=some ⟨oc,od,.func (W.fnOf m q (d9 st) (gH st) (aP st) .none kV doc pm an cdv ct),osl⟩)(c:W.codeIn K cdv q=true)(k:W.keepIn K (.ref f)=true)(n:isFn K (.ref f)=true):iw K C m q st:=⟨_,_,⟨a,n⟩,V6 l c k⟩
end
def ZP(K:zzy)(C:Addr):List Str->Prop
 | []=>True
 | a::l=>findIn K (.ref C) a=some none/\ZP K C l
def WT(K:zzy):List Str->Prop
 | []=>True
 | a::l=>nsIn K mainGlobals a=some none/\WT K l
def afk(mg:zzv):List Str->Prop
 | []=>True
 | a::l=>mg a=none/\afk mg l
theorem WT.mg{K:zzy}{h:Heap}{mg:zzv}(X:K.In h)(G:h.Ns mainGlobals mg):∀{l:List Str},WT K l->afk mg l
 | [],_=>trivial
 | _::_,z=>⟨mg_none_of X G z.1,WT.mg X G z.2⟩
structure MJ(K:zzy)(x:Str)(C:Addr):Prop where
 a:nsIn K mainGlobals x=some (some (.ref C))
 pg:plainGet K C Str.empty=true
 hd:hasDictIn K C=true
 po:plainOver K C=true
 sa:findIn K (.ref C) "__setattr__" = some (some (.builtin "object.__setattr__"))
 ms:makesIn K C=true
 kp:keepIn K (.ref C)=true
theorem MJ.cls(I:MJ K x C):Cls K C:=⟨I.pg,I.hd,I.po,I.sa⟩
structure Xa(K:zzy)(x:Str)(C:Addr):Prop where
 a:nsIn K mainGlobals x=some (some (.ref C))
 cl:(clsIn K C).isSome=true
 ty:typeIn K (.ref C)=some (.type "type")
 bs:subIn K (.ref C) (.type "BaseException")=some true
structure XrI(K:zzy)(C:Addr):Prop where
 ga:findIn K (.ref C) "__getattribute__" = some (some (.builtin "BaseException.__getattribute__"))
 gk:findIn K (.ref C) "__getattr__" = some none
 mB:mroIn K C (.type "BaseException")=some true
 ca:findIn K (.ref C) "__class__" = some (some (.builtin "object.__class__"))
 mo:mroIn K C (.type "object")=some true
 ve:subIn K (.ref C) (.type "ValueError")=some true
 ex:excIn K C [.type "ValueError",.type "Exception",.type "BaseException",.type "object"] "ValueError.__new__" = true
structure XcI(K:zzy):Prop where
 cg:specialIn K (.builtin "object.__class__") "__get__" = some (some (.builtin "getset_descriptor.__get__"))
 ct:takesIn K (.builtin "object.__class__")=some true
structure At8(P:Program)(w:World)(K:zzy)(mg:zzv)(base:Heap):Prop where
 h:∃h,K.In h/\h.Ns mainGlobals mg
section
variable{mg:zzv}{m q:Str}{h:Heap}{b:Bool}
theorem Xa.o{R:Addr}(I:Xa K x C)(X:K.In h)(G:h.Ns mainGlobals mg)(Q:yG K R C b):Xo K mg R C x b:=⟨mg_of X G I.a,⟨I.cl,I.ty,I.bs⟩,Q⟩
theorem Xa.r(I:Xa K x C)(X:K.In h)(G:h.Ns mainGlobals mg)(R:XrI K C)(c:XcI K):Xr K mg C x:=⟨mg_of X G I.a,⟨I.cl,I.ty,I.bs⟩,⟨R.ga,R.gk,R.mB,I.cl,R.ca,c.cg,c.ct,R.mo⟩,R.ex,R.ve⟩
variable(Y:At8 P w K mg base)
include Y
theorem At8.fn(D:iV K x st)(ok:∀{f:Addr}{fd:zzs},fZ K x x st f fd->bR P w K mg base iB k f fd ps sp)(b:nM (d9 st) ps=true:=by kernel_rfl):FnAt P w K mg base k x ps sp:=by
 obtain⟨h,X,G⟩:=Y.h;obtain⟨f,fd,a,F⟩:=D;exact⟨f,fd,ok F,mg_of X G a,F.kp,F.uy b⟩
theorem At8.fnX(D:iV K x st)(ok:∀{f:Addr}{fd:zzs},fZ K x x st f fd->bR P w K mg base (uG P w) k f fd ps sp)(b:nM (d9 st) ps=true:=by kernel_rfl):WX P w K mg base k x ps sp:=by
 obtain⟨h,X,G⟩:=Y.h;obtain⟨f,fd,a,F⟩:=D;exact⟨f,fd,ok F,mg_of X G a,F.kp,F.uy b⟩
theorem At8.me(D:iw K C m q st)(ok:∀{f:Addr}{fd:zzs},fZ K m q st f fd->bR P w K mg base iB k f fd ps sp)(b:nM (d9 st) ps=true:=by kernel_rfl):MethAt P w K mg base k C m ps sp:=by
 obtain⟨f,fd,⟨a,n⟩,F⟩:=D;exact⟨f,fd,ok F,⟨a,n,F.kp⟩,F.uy b⟩
theorem At8.meX(D:iw K C m q st)(ok:∀{f:Addr}{fd:zzs},fZ K m q st f fd->bR P w K mg base (uG P w) k f fd ps sp)(b:nM (d9 st) ps=true:=by kernel_rfl):mZ P w K mg base k C m ps sp:=by
 obtain⟨f,fd,⟨a,n⟩,F⟩:=D;exact⟨f,fd,ok F,⟨a,n,F.kp⟩,F.uy b⟩
theorem At8.ma(I:MJ K x C)(D:iw K C "__init__" q st)(ok:∀{f:Addr}{fd:zzs},fZ K "__init__" q st f fd->bR P w K mg base iB k f fd ps sp)(b:nM (d9 st) ps=true:=by kernel_rfl):pI P w K mg base k C x ps [] sp:=by
 obtain⟨h,X,G⟩:=Y.h;obtain⟨f,fd,⟨a,n⟩,F⟩:=D;exact⟨f,fd,[],ok F,⟨I.ms,a,n,I.kp⟩,mg_of X G I.a,F.uy b,.nil⟩
theorem At8.maX(I:MJ K x C)(D:iw K C "__init__" q st)(ok:∀{f:Addr}{fd:zzs},fZ K "__init__" q st f fd->bR P w K mg base (uG P w) k f fd ps sp)(b:nM (d9 st) ps=true:=by kernel_rfl):wz P w K mg base k C x ps [] sp:=by
 obtain⟨h,X,G⟩:=Y.h;obtain⟨f,fd,⟨a,n⟩,F⟩:=D;exact⟨f,fd,[],ok F,⟨I.ms,a,n,I.kp⟩,mg_of X G I.a,F.uy b,.nil⟩
end
end L2
namespace L2
open PySem PySem.Spec PyProof.Rows
theorem yL:isSubtype (.type "range_iterator") (.type "reversed")=pure false:=by rw[isSubtype_type];kernel_rfl
def NT(j:Int):Obj:={cls:= .type "range_iterator",data:= .fields #[rawInt (0+(Builtin.Range.rangeSize 0 j 1-1)*1),rawInt (Builtin.Range.rangeSize 0 j 1),rawInt (-1)]}
section
variable{prog:Program}
theorem lq{z:Int}(b: -(2 ^ 63)<=z)(a:z<2 ^ 63):Builtin.Range.rangeFitsLong z=true:=by
 unfold Builtin.Range.rangeFitsLong;rw[aaO b,aaO a];rfl
theorem vY{r:Addr}{j:Int}{t u v:Tok}(b:IsRange s.heap r 0 j 1 t u v)(f: -(2 ^ 61)<=j)(e:j<2 ^ 61)(h:Q (.ref s.heap.objs.size) {s with heap:=s.heap.push (NT j)}):wpAny (model prog w) A (call (.builtin "range.__reversed__") [.ref r]) Q E s:=by
 have d:s.TypeIs (.ref r) "range" :=⟨_,b,Z⟩;refine wpAny_call_entry F.slot_range_reversed d F.entry_range_reversed ?_ (F.args_range_reversed_1 _);unfold Builtin.«range.__reversed__»;refine aax (wpAny_of_eq (a:=Value.ref r) rfl ?_);refine aax ?_;unfold Builtin.Range.rangeFields;refine aax (wpAny_field b rfl (x:= .int 0 t) rfl ?_);refine aax (wpAny_of_eq (a:=some (0:Int)) rfl ?_);refine aax (wpAny_field b rfl (x:= .int j u) rfl ?_);refine aax (wpAny_of_eq (a:=some j) rfl ?_);refine aax (wpAny_field b rfl (x:= .int 1 v) rfl ?_);refine aax (wpAny_of_eq (a:=some (1:Int)) rfl ?_);refine wpAny_of_eq (a:=((0:Int),j,(1:Int))) rfl ?_
 have c:(Builtin.Range.rangeFitsLong 0&&Builtin.Range.rangeFitsLong j&&Builtin.Range.rangeFitsLong 1&&Builtin.Range.rangeFitsLong (-1)&&Builtin.Range.rangeFitsLong (0-1)&&Builtin.Range.rangeFitsLong (Builtin.Range.rangeSize 0 j 1))=true:=by
  rw[lq (by decide) (by decide),lq (z:=j) (by lia) (by lia),lq (z:=1) (by decide) (by decide),lq (z:= -1) (by decide) (by decide),lq (z:=0-1) (by decide) (by decide),lq (z:=Builtin.Range.rangeSize 0 j 1) (by rw[rangeSize_one];split<;>lia) (by rw[rangeSize_one];split<;>lia)];rfl
 dsimp only;rw[c];simp only[Bool.not_true,Bool.false_eq_true,if_false,if_true]
 first
 | exact aax (wpAny_newObj_type (aay ⟨_,Z,h⟩))
 | refine aax (wpAny_of_eq (a:=()) rfl ?_)
   exact aax (wpAny_newObj_type (aay ⟨_,Z,h⟩))
theorem vV{r:Addr}{j:Int}{t u v:Tok}{Q₁:zzx}(b:IsRange s.heap r 0 j 1 t u v)(e: -(2 ^ 61)<=j)(d:j<2 ^ 61)(h:Q₁ (.ref s.heap.objs.size) {s with heap:=s.heap.push (NT j)}):
 codeAny (model prog w) A (.call (.builtin "reversed.__new__") ⟨[.type "reversed",.ref r],[]⟩) (wants Q₁ E) s:=by
 have c:s.TypeIs (.ref r) "range" :=⟨_,b,Z⟩;refine codeAny_of_tree ?_;show wpAny _ A.in1 (do checkBuiltinCall "reversed.__new__" ⟨[.type "reversed",.ref r],[]⟩;again (.builtin "reversed.__new__" ⟨[.type "reversed",.ref r],[]⟩)) _ _ s;refine aax (wpAny_of_eq (F.newCall_reversed_1 _) (aay ⟨plainId_quiet F.plain_reversed_new _,codeAny_builtin F.entry_reversed_new ?_⟩));rw[Around.under_plainId F.plain_reversed_new _];unfold Builtin.«reversed.__new__»;refine aax (wpAny_of_eq (newClass_reversed _) ?_)
 try dsimp only
 refine aax (wpAny_of_eq (a:=()) (by first |rfl|kernel_rfl) ?_);refine aax (wpAny_of_eq (a:=()) (by first |rfl|kernel_rfl) ?_)
 try dsimp only
 refine aax (wpAny_specialOf c F.slot_range_reversed.lookup ?_)
 try dsimp only
 refine aax (wpAny_of_eq (F.slot_range_reversed.bind _) ?_)
 try dsimp only
 first
 | rw[ac9 (show ¬((Value.builtin "range.__reversed__" == Value.none)=true) from aaV)]
 | (show wpAny _ _ (if (Value.builtin "range.__reversed__" == Value.none)=true then _ else _) _ _ _;rw[ac9 (show ¬((Value.builtin "range.__reversed__" == Value.none)=true) from aaV)])
 refine aax (wpAny_rule ?_);refine aax (m:=runValue (.call (.builtin "range.__reversed__") ⟨[.ref r],[]⟩)) (show wpAny _ _ (call (.builtin "range.__reversed__") [.ref r]) _ _ _ from vY b e d ?_)
 first
 | exact aay h
 | exact aax (aay (aay h))
theorem vZ{r:Addr}{j:Int}{t u v:Tok}(b:IsRange s.heap r 0 j 1 t u v)(d: -(2 ^ 61)<=j)(c:j<2 ^ 61)(h:Q (.ref s.heap.objs.size) {s with heap:=s.heap.push (NT j)}):wpAny (model prog w) A (call (.type "reversed") [.ref r]) Q E s:=by
 refine callType_other (U:= "range_iterator") (Q₁:=λobj a=>obj=.ref s.heap.objs.size/\a={s with heap:=s.heap.push (NT j)}) (by decide +kernel) F.create_reversed ⟨_,_,F.mro_reversed⟩ F.made_reversed yL (F.typeCall_reversed_1 _) (vV b d c ⟨Z,Z⟩) ?_;rintro obj a ⟨rfl,rfl⟩;exact⟨⟨_,aao _ rfl,Z⟩,h⟩
end
def aex(a:TA):TI:=λσ H R=>a σ H λvs H1=>∃j:Int,vs=[.int j]/\(0<=j/\j<2 ^ 61)/\R (WW (j-1) j.toNat) H1
theorem Yq{a:Expr}{r:TA}{p c:Pos}(A:Gl X "reversed")(z:X.mg "reversed" = none)(l:Gl X "range")(i:X.mg "range" = none)(C:PA X [a] r)(hs:starEach [a] X.env=[(false,eval a X.env)]:=by rfl)(u:starEach [.Call (.Name "range" p2) [a] [] c] X.env=[(false,eval (.Call (.Name "range" p2) [a] [] c) X.env)]:=by rfl):
 PI X tg (.Call (.Name "reversed" p) [.Call (.Name "range" p2) [a] [] c] [] pos) (aex r):=by
 intro f s n H R I h;refine Call_ (pF I A z J3 (PyProof.Rows.callWith_type1 ?_ u rfl));rw[u];show wpAny _ _ (spliced ((false,eval (.Call (.Name "range" p2) [a] [] c) X.env)::backTo pos (starEach [] X.env))) _ _ s;refine Calls.spliced_cons (Call_ (pF I l i boot_range (PyProof.Rows.callWith_type1 (dG (C c f s n H _ I h) λJ g ⟨G,H1,F,y,q1⟩=>?_) hs rfl)));obtain⟨j,e,⟨q1,q2⟩,q⟩:=q1;subst e;obtain⟨v,rfl,w⟩:=vals1 y;obtain⟨t,rfl⟩:=w;refine call_range_1 ?_;refine Calls.spliced_nil ?_;refine vZ (IsRange.new ..) (by lia) q2 ?_;generalize k:g.heap.push {cls:= .type "range",data:= .fields #[.int 0 g.toks,.int j t,.int 1 (g.toks+1)]}=d;have m:Inv X f n H1 {g with heap:=d,toks:=g.toks+1+1}:=by subst k;exact F.kept λb o e=>aan _ e
 refine wpAny_pyIter_rangeiter (it:=d.objs.size) (x:=0+(Builtin.Range.rangeSize 0 j 1-1)*1) (left:=Builtin.Range.rangeSize 0 j 1) (step:= -1) (aao _ rfl) ?_;refine⟨d.objs.size,[d.objs.size],_,_,H1,Z,m.kept (t':=g.toks+1+1) λb o e=>aan _ e,Ii _ (j-1) j.toNat,?_,λb B=>?_,q⟩
 .show IsRangeIter _ _ (j-1+((0:Nat):Int)*(-1)) (((j.toNat:Nat):Int)-((0:Nat):Int)) (-1)
  have E:j-1+((0:Nat):Int)*(-1)=0+(Builtin.Range.rangeSize 0 j 1-1)*1:=by rw[rangeSize_one];split<;>lia
  have D:((j.toNat:Nat):Int)-((0:Nat):Int)=Builtin.Range.rangeSize 0 j 1:=by rw[rangeSize_one];split<;>lia
  rw[E,D];exact aao _ rfl
 .have e:b=d.objs.size:=by simpa using B
  subst e;exact m.yS (aaw _) (m.hok.fresh (aaw _))
end L2
namespace Prf
open PySem L2
inductive Ah(r:Nat->Nat->Prop):Nat->Nat->Prop
 | one {i j:Nat} (h:r i j):Ah r i j
 | more {i y j:Nat} (h:r i y) (q:Ah r y j):Ah r i j
theorem Ah.trans{r:Nat->Nat->Prop}:∀{i y j:Nat},Ah r i y->Ah r y j->Ah r i j
 | _,_,_,.one h,q=> .more h q
 | _,_,_,.more h p,q=> .more h (p.trans q)
theorem Ah.lt{r:Nat->Nat->Prop}(a:∀i j,r i j->i<j):∀{i j:Nat},Ah r i j->i<j
 | _,_,.one h=>a _ _ h
 | _,_,.more h q=>Nat.lt_trans (a _ _ h) (q.lt a)
theorem Ah.last{r:Nat->Nat->Prop}:∀{i j:Nat},Ah r i j->r i j \/ ∃y,Ah r i y/\r y j
 | _,_,.one h=> .inl h
 | _,_,.more h q=> .inr (match q.last with
   | .inl g=>⟨_,.one h,g⟩
   | .inr ⟨y,a,b⟩=>⟨y,.more h a,b⟩)
theorem Ah.first{r:Nat->Nat->Prop}:∀{i j:Nat},Ah r i j->r i j \/ ∃y,r i y/\Ah r y j
 | _,_,.one h=> .inl h
 | _,_,.more h q=> .inr ⟨_,h,q⟩
theorem Ah.down{r:Nat->Nat->Prop}{D:Nat->Prop}(cl:∀a b,r a b->D b->D a):∀{i j:Nat},Ah r i j->D j->D i
 | _,_,.one h,d=>cl _ _ h d
 | _,_,.more h q,d=>cl _ _ h (q.down cl d)
def told(own meet:Nat->Nat->Prop)(few:Prop)(i j:Nat):Prop:=i<j/\meet i j /\ ¬(few /\ ∃x,i<x/\x<j/\Ah (λa b=>a<b/\(own a b\/meet a b)) x j/\Ah (λa b=>a<b/\(own a b\/meet a b)) i x)
theorem mG{own meet:Nat->Nat->Prop}{few:Prop}{D:Nat->Prop}(cl:∀a b,a<b->own a b\/meet a b->D b->D a){j:Nat}(e:∀i,i<j->own i j->D i)(k:∀i,told own meet few i j->D i):
 ∀n i,i<j->j-i<=n->meet i j->D i
 | 0,i,l,m,_=>by lia
 | n+1,i,l,m,h=>by
   have r:∀a b,(a<b/\(own a b\/meet a b))->a<b:=λ_ _ z=>z.1;have c:∀a b,(a<b/\(own a b\/meet a b))->D b->D a:=λa b z=>cl a b z.1 z.2;refine Classical.byContradiction λd=>?_;have nt:¬told own meet few i j:=λz=>d (k i z);have:few /\ ∃x,i<x/\x<j/\Ah (λa b=>a<b/\(own a b\/meet a b)) x j/\Ah (λa b=>a<b/\(own a b\/meet a b)) i x:=Classical.byContradiction λz=>nt ⟨l,h,z⟩;obtain⟨_,x,u,o,s,f⟩:=this;rcases(f.trans s).last with q|⟨y,p,q⟩
   .rcases s.last with g|⟨z,g1,g2⟩
    .rcases g.2 with g|g
     .exact d (f.down c (e x o g))
     .exact d (f.down c (mG cl e k n x o (by lia) g))
    .have t:=g1.lt r
     rcases g2.2 with g|g
     .exact d ((f.trans g1).down c (e z g2.1 g))
     .exact d ((f.trans g1).down c (mG cl e k n z g2.1 (by lia) g))
   .have:=p.lt r
    rcases q.2 with g|g
    .exact d (p.down c (e y q.1 g))
    .exact d (p.down c (mG cl e k n y q.1 (by lia) g))
theorem TV{r:Nat->Nat->Prop}(a:∀i j,r i j->i<j)(l:i<j):Ah r i j↔r i j \/ ∃y,i<y/\y<j/\Ah r i y/\Ah r y j:=by
 constructor
 .intro h
  rcases h.first with q|⟨y,p,q⟩
  .exact .inl q
  .exact .inr ⟨y,a _ _ p,q.lt a,.one p,q⟩
 .rintro(h|⟨y,_,_,p,q⟩)
  .exact .one h
  .exact p.trans q
end Prf
namespace Tip
open PySem PyProof.Rows
def mX:Bool->Keyed->Array Keyed->Nat->Nat->Nat->StateT SortSt Sem (Option Nat):=sortPriv% PySem.Builtin.gallop
def sS(left:Bool)(key:Keyed)(a:Array Keyed)(base i:Nat):StateT SortSt Sem (Option Bool):=do
 let x ←elem' a (base+i)
 if left then lt' x key else return (←lt' key x).map (!·)
def glB(left:Bool)(key:Keyed)(a:Array Keyed)(base n lo hi:Nat):StateT SortSt Sem (Option Nat):=do
 let mut lo:=lo
 let mut hi:=hi
 for _ in [0:n] do
  if lo≥hi then break
  let m:=lo+(hi-lo) / 2
  let some more ←sS left key a base m|return none
  if more then lo:=m+1 else hi:=m
 return some hi
theorem Ly(left:Bool)(key:Keyed)(b:Array Keyed)(base n a:Nat):mX left key b base n a=(do
 let mut lastofs:=0
 let mut ofs:=1
 let some right ←sS left key b base a|return none
 if right then
  for _ in [0:n] do
   if ofs≥n-a then break
   let some more ←sS left key b base (a+ofs)|return none
   if !more then break
   lastofs:=ofs
   ofs:=2*ofs+1
  glB left key b base n (a+lastofs+1) (a+min ofs (n-a))
 else
  for _ in [0:n] do
   if ofs≥a+1 then break
   let some found ←sS left key b base (a-ofs)|return none
   if found then break
   lastofs:=ofs
   ofs:=2*ofs+1
  glB left key b base n (a+1-min ofs (a+1)) (a-lastofs)):=Z
section
variable{prog:Program}{κ:SortKind}{a₀:Array Keyed}
structure wH(prog:Program)(w:World)(A:Around)(s:Shared)(κ:SortKind)(a₀:Array Keyed):Prop where
 ask:∀p∈a₀.toList,∀q∈a₀.toList,∀(E:zzx)(Q:Bool->Shared->Prop),(∀b,Q b s)->wpAny (model prog w) A (keyLt' κ p.1 q.1) Q E s
theorem cB{st:SortSt}{a:Array Keyed}{Q:Keyed->SortSt->Prop}(hi:i<a.size)(h:Q a[i] st):wpS (model prog w) A E s (elem' a i) Q st:=by
 rw[elem'_eq,getElem?_pos a i hi];exact aaG h
theorem bC{α:Type}{c:Prop}[Decidable c]{x y:StateT SortSt Sem α}{Q:α->SortSt->Prop}{st:SortSt}(d:c->wpS (model prog w) A E s x Q st)(b:¬c->wpS (model prog w) A E s y Q st):wpS (model prog w) A E s (if c then x else y) Q st:=by
 by_cases a:c
 .rw[ac_ a];exact d a
 .rw[ac9 a];exact b a
def Of(a₀ a:Array Keyed):Prop:=∀p∈a.toList,p∈a₀.toList
theorem Of.get{a:Array Keyed}(h:Of a₀ a)(hi:i<a.size):a[i]∈a₀.toList:=h _ (by simp)
structure sW(st st':SortSt):Prop where
 k:kindOf st'=kindOf st
 a:arrOf st'=arrOf st
 p:pendingOf st'=pendingOf st
 f:failedOf st'=failedOf st
theorem sW.refl(st:SortSt):sW st st:=⟨Z,Z,Z,Z⟩
theorem sW.trans{a b c:SortSt}(h:sW a b)(g:sW b c):sW a c:=⟨g.k.trans h.k,g.a.trans h.a,g.p.trans h.p,g.f.trans h.f⟩
def gB:Nat->StateT SortSt Sem Unit:=sortPriv% PySem.Builtin.setMinGallop
theorem wY(g:Nat):gB g=modify λs=>SortSt.mk' (kindOf s) (arrOf s) (pendingOf s) g (failedOf s):=Z
theorem rK{st:SortSt}{g:Nat}{Q:Unit->SortSt->Prop}(h:∀a,sW st a->Q () a):wpS (model prog w) A E s (gB g) Q st:=by
 rw[wY];exact wpS_modify (h _ ⟨Z,Z,Z,Z⟩)
theorem cV(a:Array Keyed)(i j:Nat):(a.extract i j).toList=(a.toList.drop i).take (j-i):=by
 rw[Array.toList_extract,List.extract_eq_take_drop]
theorem uw(l:List Keyed)(i k:Nat):l.drop i=(l.drop i).take k++l.drop (i+k):=by
 rw[←List.drop_drop,List.take_append_drop]
end
def Bv:Array Keyed->Array Keyed->StateT SortSt Sem (Array Keyed):=sortPriv% PySem.Builtin.mergeLo
def Bw:Array Keyed->Array Keyed->StateT SortSt Sem (Array Keyed):=sortPriv% PySem.Builtin.mergeHi
abbrev iT(a b out:Array Keyed)(ia ib:Nat):Array Keyed:=out++a.extract ia a.size++b.extract ib b.size
abbrev ug(a b out:Array Keyed)(ia ib:Nat):Array Keyed:=out++b.extract ib b.size++a.extract ia a.size
abbrev S1:=Option (Array Keyed)×Array Keyed×Nat×Nat×Nat×Nat
abbrev S2:=Option (Array Keyed)×Array Keyed×Nat×Nat×Nat×Nat×Nat
def loC(a b:Array Keyed)(ia mg ac c:Nat)(out:Array Keyed)(ib:Nat):StateT SortSt Sem (ForInStep S2):=do
 let out:=out.push (←elem' a ia)
 if ia+1+1==a.size then return .done (some (ug a b out (ia+1) ib),out,ia+1,ib,mg,ac,c)
 if ac<7&&c<7 then return .done (none,out,ia+1,ib,mg,ac,c)
 return .yield (none,out,ia+1,ib,mg,ac,c)
def loB(a b:Array Keyed)(ib mg ac c:Nat)(out:Array Keyed)(ia:Nat):StateT SortSt Sem (ForInStep S2):=do
 let out:=out.push (←elem' b ib)
 if ib+1==b.size then return .done (some (iT a b out ia (ib+1)),out,ia,ib+1,mg,ac,c)
 let some k ←mX true (←elem' a ia) b (ib+1) (b.size-(ib+1)) 0|return .done (some (iT a b out ia (ib+1)),out,ia,ib+1,mg,ac,c)
 if k>0 then
  if ib+1+k==b.size then return .done (some (iT a b (out++b.extract (ib+1) (ib+1+k)) ia (ib+1+k)),out++b.extract (ib+1) (ib+1+k),ia,ib+1+k,mg,ac,k)
  else loC a b ia mg ac k (out++b.extract (ib+1) (ib+1+k)) (ib+1+k)
 else loC a b ia mg ac k out (ib+1)
def loA(a b out:Array Keyed)(ia ib ac c mg:Nat):StateT SortSt Sem (ForInStep S2):=do
 gB mg
 let some k ←mX false (←elem' b ib) a ia (a.size-ia) 0|return .done (some (iT a b out ia ib),out,ia,ib,mg,ac,c)
 if k>0 then
  if ia+k+1==a.size then return .done (some (ug a b (out++a.extract ia (ia+k)) (ia+k) ib),out++a.extract ia (ia+k),ia+k,ib,mg,k,c)
  else if ia+k==a.size then return .done (some (iT a b (out++a.extract ia (ia+k)) (ia+k) ib),out++a.extract ia (ia+k),ia+k,ib,mg,k,c)
  else loB a b ib mg k c (out++a.extract ia (ia+k)) (ia+k)
 else loB a b ib mg k c out ia
def lo1(a b:Array Keyed)(mg:Nat)(c:S1):StateT SortSt Sem (ForInStep S1):=
 let d:=c.2.1;let ia:=c.2.2.1;let ib:=c.2.2.2.1;let ac:=c.2.2.2.2.1;let bc:=c.2.2.2.2.2
 do
 let some e ←lt' (←elem' b ib) (←elem' a ia)|return .done (some (iT a b d ia ib),d,ia,ib,ac,bc)
 if e then
  let d:=d.push (←elem' b ib)
  if ib+1==b.size then return .done (some (iT a b d ia (ib+1)),d,ia,ib+1,0,bc+1)
  if bc+1≥mg then return .done (none,d,ia,ib+1,0,bc+1)
  return .yield (none,d,ia,ib+1,0,bc+1)
 else
  let d:=d.push (←elem' a ia)
  if ia+1+1==a.size then return .done (some (ug a b d (ia+1) ib),d,ia+1,ib,ac+1,0)
  if ac+1≥mg then return .done (none,d,ia+1,ib,ac+1,0)
  return .yield (none,d,ia+1,ib,ac+1,0)
abbrev S0:=Option (Array Keyed)×Array Keyed×Nat×Nat×Nat
def loO(a b:Array Keyed)(c:S0):StateT SortSt Sem (ForInStep S0):=do
 let s ←forIn [0:a.size+b.size] ((none,c.2.1,c.2.2.1,c.2.2.2.1,0,0):S1) λ_ s=>lo1 a b c.2.2.2.2 s
 match s.1 with
 | some r=>pure (.done (some r,s.2.1,s.2.2.1,s.2.2.2.1,c.2.2.2.2))
 | none=>do
   rule "list.sort.gallop"
   let s ←forIn [0:a.size+b.size] ((none,s.2.1,s.2.2.1,s.2.2.2.1,c.2.2.2.2+1,s.2.2.2.2.1,s.2.2.2.2.2):S2) λ_ c=>
    if c.2.2.2.2.1>1 then loA a b c.2.1 c.2.2.1 c.2.2.2.1 c.2.2.2.2.2.1 c.2.2.2.2.2.2 (c.2.2.2.2.1-1) else loA a b c.2.1 c.2.2.1 c.2.2.2.1 c.2.2.2.2.2.1 c.2.2.2.2.2.2 c.2.2.2.2.1
   match s.1 with
   | some r=>pure (.done (some r,s.2.1,s.2.2.1,s.2.2.2.1,s.2.2.2.2.1))
   | none=>do
     gB (s.2.2.2.2.1+1)
     pure (.yield (none,s.2.1,s.2.2.1,s.2.2.2.1,s.2.2.2.2.1+1))
theorem Jm(a b:Array Keyed):Bv a b=(do
 rule "list.sort.merge-lo"
 let out:Array Keyed:= #[←elem' b 0]
 if 1==b.size then return iT a b out 0 1
 if 0+1==a.size then return ug a b out 0 1
 let s ←forIn [0:a.size+b.size] ((none,out,0,1,gallopOf (←get)):S0) λ_ c=>loO a b c
 match s.1 with
 | some r=>pure r
 | none=>unsupported "internal:list.sort.merge-bound"):=by kernel_rfl
section
variable{a b out:Array Keyed}
def Pm(a b out:Array Keyed)(ia ib:Nat):Prop:=(out.toList++(a.toList.drop ia++b.toList.drop ib)).Perm (a.toList++b.toList)
def Mg(a b r:Array Keyed):Prop:=r.toList.Perm (a.toList++b.toList)
theorem Pm.swap(m:Pm a b out ia ib):Pm b a out ib ia:=(List.Perm.append_left _ List.perm_append_comm).trans (List.Perm.trans m List.perm_append_comm)
theorem Pm.q_(m:Pm a b out ia ib):Pm a b (out++b.extract ib (ib+k)) ia (ib+k):=by
 unfold Pm;rw[Array.toList_append,cV,show ib+k-ib=k by lia,List.append_assoc];refine List.Perm.trans (List.Perm.append_left _ ?_) m;refine List.Perm.trans ?_ (List.Perm.of_eq (congrArg (a.toList.drop ia ++ ·) (uw b.toList ib k).symm));rw[←List.append_assoc];exact List.Perm.trans (List.Perm.append_right _ List.perm_append_comm) (List.Perm.of_eq (List.append_assoc _ _ _))
theorem Uh(h:ib<b.size):out.push b[ib]=out++b.extract ib (ib+1):=by
 apply Array.toList_inj.mp;rw[Array.toList_push,Array.toList_append,cV];congr 1;rw[show ib+1-ib=1 by lia,List.drop_eq_getElem_cons (by rw[aaH];exact h)];rfl
theorem Pm.done(m:Pm a b out ia ib):Mg a b (iT a b out ia ib):=by
 unfold Mg iT;rw[Array.toList_append,Array.toList_append,cV,cV,List.append_assoc,List.take_of_length_le (by rw[List.length_drop,aaH];exact aaw _),List.take_of_length_le (by rw[List.length_drop,aaH];exact aaw _)];exact m
theorem Pm.size(m:Pm a b out ia ib)(h:ia<a.size):out.size<a.size+b.size:=by
 have:=List.Perm.length_eq m;simp only[abf,List.length_drop,aaH] at this;lia
end
section
variable{prog:Program}{κ:SortKind}{a₀ a b out:Array Keyed}{mg:Nat}{st st0:SortSt}
end
abbrev iZ(a b out:Array Keyed)(na c:Nat):Array Keyed:=a.extract 0 na++b.extract 0 c++out.reverse
abbrev sO(a b out:Array Keyed)(na c:Nat):Array Keyed:=b.extract 0 c++a.extract 0 na++out.reverse
abbrev H1:=Option (Array Keyed)×Nat×Nat×Array Keyed×Nat×Nat
abbrev H2:=Option (Array Keyed)×Nat×Nat×Array Keyed×Nat×Nat×Nat
abbrev H0:=Option (Array Keyed)×Nat×Nat×Array Keyed×Nat
def hiC(a b:Array Keyed)(na mg ac d:Nat)(out:Array Keyed)(c:Nat):StateT SortSt Sem (ForInStep H2):=do
 let out:=out.push (←elem' a (na-1))
 if na-1==0 then return .done (some (iZ a b out (na-1) c),na-1,c,out,mg,ac,d)
 if ac<7&&d<7 then return .done (none,na-1,c,out,mg,ac,d)
 return .yield (none,na-1,c,out,mg,ac,d)
def hiB(a b:Array Keyed)(c mg ac d:Nat)(out:Array Keyed)(na:Nat):StateT SortSt Sem (ForInStep H2):=do
 let out:=out.push (←elem' b (c-1))
 if c-1==1 then return .done (some (sO a b out na (c-1)),na,c-1,out,mg,ac,d)
 let some t ←mX true (←elem' a (na-1)) b 0 (c-1) (c-1-1)|return .done (some (iZ a b out na (c-1)),na,c-1,out,mg,ac,d)
 if c-1-t>0 then
  if t==1 then return .done (some (sO a b (out++(b.extract t (c-1)).reverse) na t),na,t,out++(b.extract t (c-1)).reverse,mg,ac,c-1-t)
  else if t==0 then return .done (some (iZ a b (out++(b.extract t (c-1)).reverse) na t),na,t,out++(b.extract t (c-1)).reverse,mg,ac,c-1-t)
  else hiC a b na mg ac (c-1-t) (out++(b.extract t (c-1)).reverse) t
 else hiC a b na mg ac (c-1-t) out (c-1)
def hiA(a b out:Array Keyed)(na c ac d mg:Nat):StateT SortSt Sem (ForInStep H2):=do
 gB mg
 let some t ←mX false (←elem' b (c-1)) a 0 na (na-1)|return .done (some (iZ a b out na c),na,c,out,mg,ac,d)
 if na-t>0 then
  if t==0 then return .done (some (iZ a b (out++(a.extract t na).reverse) t c),t,c,out++(a.extract t na).reverse,mg,na-t,d)
  else hiB a b c mg (na-t) d (out++(a.extract t na).reverse) t
 else hiB a b c mg (na-t) d out na
def hi1(a b:Array Keyed)(mg:Nat)(c:H1):StateT SortSt Sem (ForInStep H1):=
 let na:=c.2.1;let nb:=c.2.2.1;let d:=c.2.2.2.1;let ac:=c.2.2.2.2.1;let bc:=c.2.2.2.2.2
 do
 let some e ←lt' (←elem' b (nb-1)) (←elem' a (na-1))|return .done (some (iZ a b d na nb),na,nb,d,ac,bc)
 if e then
  let d:=d.push (←elem' a (na-1))
  if na-1==0 then return .done (some (iZ a b d (na-1) nb),na-1,nb,d,ac+1,0)
  if ac+1≥mg then return .done (none,na-1,nb,d,ac+1,0)
  return .yield (none,na-1,nb,d,ac+1,0)
 else
  let d:=d.push (←elem' b (nb-1))
  if nb-1==1 then return .done (some (sO a b d na (nb-1)),na,nb-1,d,0,bc+1)
  if bc+1≥mg then return .done (none,na,nb-1,d,0,bc+1)
  return .yield (none,na,nb-1,d,0,bc+1)
def hiO(a b:Array Keyed)(c:H0):StateT SortSt Sem (ForInStep H0):=do
 let s ←forIn [0:a.size+b.size] ((none,c.2.1,c.2.2.1,c.2.2.2.1,0,0):H1) λ_ s=>hi1 a b c.2.2.2.2 s
 match s.1 with
 | some r=>pure (.done (some r,s.2.1,s.2.2.1,s.2.2.2.1,c.2.2.2.2))
 | none=>do
   rule "list.sort.gallop"
   let s ←forIn [0:a.size+b.size] ((none,s.2.1,s.2.2.1,s.2.2.2.1,c.2.2.2.2+1,s.2.2.2.2.1,s.2.2.2.2.2):H2) λ_ c=>
    if c.2.2.2.2.1>1 then hiA a b c.2.2.2.1 c.2.1 c.2.2.1 c.2.2.2.2.2.1 c.2.2.2.2.2.2 (c.2.2.2.2.1-1) else hiA a b c.2.2.2.1 c.2.1 c.2.2.1 c.2.2.2.2.2.1 c.2.2.2.2.2.2 c.2.2.2.2.1
   match s.1 with
   | some r=>pure (.done (some r,s.2.1,s.2.2.1,s.2.2.2.1,s.2.2.2.2.1))
   | none=>do
     gB (s.2.2.2.2.1+1)
     pure (.yield (none,s.2.1,s.2.2.1,s.2.2.2.1,s.2.2.2.2.1+1))
theorem Jo(a b:Array Keyed):Bw a b=(do
 rule "list.sort.merge-hi"
 let out:Array Keyed:= #[←elem' a (a.size-1)]
 if a.size-1==0 then return iZ a b out (a.size-1) b.size
 if b.size==1 then return sO a b out (a.size-1) b.size
 let s ←forIn [0:a.size+b.size] ((none,a.size-1,b.size,out,gallopOf (←get)):H0) λ_ c=>hiO a b c
 match s.1 with
 | some r=>pure r
 | none=>unsupported "internal:list.sort.merge-bound"):=by kernel_rfl
section
variable{a b out:Array Keyed}{t:Nat}
def Ph(a b out:Array Keyed)(na c:Nat):Prop:=(out.toList++(a.toList.take na++b.toList.take c)).Perm (a.toList++b.toList)
theorem Ph.swap(m:Ph a b out na nb):Ph b a out nb na:=(List.Perm.append_left _ List.perm_append_comm).trans (List.Perm.trans m List.perm_append_comm)
theorem Ph.rm(m:Ph a b out na nb)(h:t<=na):Ph a b (out++(a.extract t na).reverse) t nb:=by
 unfold Ph;rw[Array.toList_append,Array.toList_reverse,cV,List.append_assoc];refine List.Perm.trans (List.Perm.append_left _ ?_) m
 have e:a.toList.take na=a.toList.take t++(a.toList.drop t).take (na-t):=by rw[List.take_drop,show t+(na-t)=na by lia];exact(show _=_ by
  have:=(List.take_append_drop t (a.toList.take na)).symm;rwa [List.take_take,Nat.min_eq_left h] at this)
 rw[e,←List.append_assoc];exact List.Perm.append_right _ ((List.Perm.append_right _ (List.reverse_perm _)).trans List.perm_append_comm)
theorem Ug(h:na-1<a.size)(b:1<=na):out.push a[na-1]=out++(a.extract (na-1) na).reverse:=by
 apply Array.toList_inj.mp;rw[Array.toList_push,Array.toList_append,Array.toList_reverse,cV];congr 1;rw[show na-(na-1)=1 by lia,List.drop_eq_getElem_cons (by rw[aaH];exact h)];rfl
theorem Ph.done(m:Ph a b out na nb):Mg a b (iZ a b out na nb):=by
 unfold Mg iZ;rw[Array.toList_append,Array.toList_append,cV,cV,Array.toList_reverse];exact List.perm_append_comm.trans ((List.Perm.append_right _ (List.reverse_perm _)).trans m)
theorem Ph.size(m:Ph a b out na nb)(h:1<=na)(c:na<=a.size):out.size<a.size+b.size:=by
 have:=List.Perm.length_eq m;simp only[abf,acX,aaH] at this;lia
def Hd(a b:Array Keyed)(na c:Nat):Prop:=1<=na/\2<=c/\na<=a.size/\c<=b.size
end
section
variable{prog:Program}{κ:SortKind}{a₀ a b out:Array Keyed}{mg:Nat}{st st0:SortSt}
end
def crL(lo b a:Nat):StateT SortSt Sem (Option (Option Nat)×Nat):=
 forIn [a:b] ((none,a):Option (Option Nat)×Nat) λ_ c=>do
  match ←ltAt' (lo+c.2) (lo+c.2-1) with
  | some t=>if t=true then pure (.done (none,c.2)) else pure (.yield (none,c.2+1))
  | _=>pure (.done (some none,c.2))
def crR(lo a n:Nat):StateT SortSt Sem (Option Nat):=do
 reverseSlice' lo (lo+n)
 let s ←crL lo a n
 match s.1 with
 | some r=>pure r
 | none=>pure (some s.2)
def crB(lo n q:Nat):StateT SortSt Sem (ForInStep (Option (Option Nat)×Nat×Nat)):=do
 match ←ltAt' (lo+n) (lo+n-1) with
 | some t=>
   if t=true then
    if q>0 then do
     reverseSlice' (lo+n-(q+1)) (lo+n)
     pure (.yield (none,n+1,0))
    else pure (.yield (none,n+1,0))
   else do
    match ←ltAt' (lo+n-1) (lo+n) with
    | some t=>if t=true then pure (.done (none,n,q)) else pure (.yield (none,n+1,q+1))
    | _=>pure (.done (some none,n,q))
 | _=>pure (.done (some none,n,q))
def crD(lo a n:Nat):StateT SortSt Sem (Option Nat):=do
 rule "list.sort.descending-run"
 let s ←forIn [n+1:a] ((none,n+1,0):Option (Option Nat)×Nat×Nat) λ_ c=>crB lo c.2.1 c.2.2
 match s.1 with
 | some r=>pure r
 | none=>
   if s.2.2>0 then do
    reverseSlice' (lo+s.2.1-(s.2.2+1)) (lo+s.2.1)
    crR lo a s.2.1
   else crR lo a s.2.1
theorem countRun'_eq(lo a:Nat):countRun' lo a=(do
 let s ←crL lo a 1
 match s.1 with
 | some r=>pure r
 | none=>
   if (s.2==a)=true then pure (some s.2) else
   if s.2>1 then do
    match ←ltAt' lo (lo+s.2-1) with
    | some t=>if t=true then pure (some s.2) else do
      reverseSlice' lo (lo+s.2)
      crD lo a s.2
    | _=>pure none
   else crD lo a s.2):=by kernel_rfl
def bsB(lo k:Nat):StateT SortSt Sem (ForInStep (Option Bool×Unit)):=do
 let s ←forIn [0:k] ((none,0,k):Option Bool×Nat×Nat) λ_ c=>
  if c.2.1≥c.2.2 then pure (.done (none,c.2.1,c.2.2)) else do
   match ←ltAt' (lo+k) (lo+(c.2.1+c.2.2) / 2) with
   | some t=>if t=true then pure (.yield (none,c.2.1,(c.2.1+c.2.2) / 2)) else pure (.yield (none,(c.2.1+c.2.2) / 2+1,c.2.2))
   | _=>pure (.done (some false,c.2.1,c.2.2))
 match s.1 with
 | some r=>pure (.done (some r,()))
 | none=>do
   moveDown' (lo+k) (lo+s.2.1)
   pure (.yield (none,()))
theorem J5(lo n ok:Nat):binarySort' lo n ok=(do
 let s ←forIn [max ok 1:n] ((none,()):Option Bool×Unit) λk _=>bsB lo k
 match s.1 with
 | some r=>pure r
 | none=>pure true):=by kernel_rfl
theorem Jp(i:Nat):mergeAt' i=(do
 let s ←get
 match (pendingOf s)[i]?,(pendingOf s)[i+1]? with
 | some (c,na,power),some (b,nb,_)=>do
   set (SortSt.mk' (kindOf s) (arrOf s) (((pendingOf s).setIfInBounds i (c,na+nb,power)).eraseIdxIfInBounds (i+1)) (gallopOf s) (failedOf s))
   match ←mX false (←elem' (arrOf s) b) (arrOf s) c na 0 with
   | some k=>
     if (na-k==0)=true then pure true else do
      match ←mX true (←elem' (arrOf s) (c+k+(na-k)-1)) (arrOf s) b nb (nb-1) with
      | some d=>
        if (d==0)=true then pure true else do
         let merged ←if na-k<=d then Bv ((arrOf s).extract (c+k) b) ((arrOf s).extract b (b+d)) else Bw ((arrOf s).extract (c+k) b) ((arrOf s).extract b (b+d))
         modify λs=>setArr s (merged.toList.zipIdx.foldl (λa x=>a.setIfInBounds (c+k+x.2) x.1) (arrOf s))
         return (failedOf (←get)).isNone
      | _=>pure false
   | _=>pure false
 | _,_=>unsupported "internal:list.sort.pending"):=by kernel_rfl
section
variable{prog:Program}{κ:SortKind}{a₀:Array Keyed}{st:SortSt}
structure SB(κ:SortKind)(a₀:Array Keyed)(pd:Array (Nat×Nat×Nat))(st:SortSt):Prop where
 perm:(arrOf st).Perm a₀
 kind:kindOf st=κ
 failed:failedOf st=none
 pend:pendingOf st=pd
theorem SB.size(h:SB κ a₀ pd st):(arrOf st).size=a₀.size:=h.perm.size_eq
theorem SB.set(h:SB κ a₀ pd st){xs:Array Keyed}(a:xs.Perm (arrOf st)):SB κ a₀ pd (setArr st xs):=⟨a.trans h.perm,h.kind,h.failed,h.pend⟩
theorem SB.of(h:SB κ a₀ pd st):Of a₀ (arrOf st):=λ_ a=>(Array.perm_iff_toList_perm.mp h.perm).mem_iff.mp a
theorem Jb(b:Nat)(m:List Keyed):∀(n:Nat)(xs:Array Keyed),b+n+m.length<=xs.size->((m.zipIdx n).foldl (λa x=>a.setIfInBounds (b+x.2) x.1) xs).toList=xs.toList.take (b+n)++(m++xs.toList.drop (b+n+m.length)):=by
 induction m with
 | nil=>intro n xs h;simp
 | cons p m c=>
   intro n xs h;rw[ac1] at h;have d:b+n<xs.toList.length:=by rw[aaH];lia
   rw[List.zipIdx_cons,List.foldl_cons,c (n+1) _ (by rw[Array.size_setIfInBounds];lia),Array.toList_setIfInBounds,ac1,List.drop_set_of_lt (by lia),show b+(n+1)=b+n+1 by lia,acU,List.take_set_of_le (aaw _),List.getElem?_set_self d,show b+n+1+m.length=b+n+(m.length+1) by lia];simp
theorem Ue{b:Nat}{m:List Keyed}{xs:Array Keyed}(e:b+n<=xs.size)(c:m.Perm ((xs.toList.drop b).take n)):((m.zipIdx).foldl (λa x=>a.setIfInBounds (b+x.2) x.1) xs).Perm xs:=by
 have d:m.length=n:=by rw[c.length_eq,acX,List.length_drop,aaH];lia
 refine Array.perm_iff_toList_perm.mpr ?_;rw[Jb b m 0 xs (by lia),d,Nat.add_zero];refine List.Perm.trans ?_ (List.Perm.of_eq (List.take_append_drop b xs.toList));rw[uw xs.toList b n];exact List.Perm.append_left _ (List.Perm.append_right _ c)
theorem Xg{a:Type}{M:Model}{x:a}{Q:PUnit->a->Prop}{st:a}(h:Q ⟨⟩ x):wpS M A E s (set x:StateT a Sem PUnit) Q st:=by
 unfold wpS;rw[StateT.run_set];exact aay ⟨Z,h⟩
end
def srP(lo n:Nat):StateT SortSt Sem (ForInStep (Option Unit×Nat)):=do
 modify λs=>setPending s ((pendingOf s).push (lo,n,0))
 pure (.yield (none,lo+n))
def srC(b:Nat):StateT SortSt Sem (ForInStep (Option Unit×Unit)):=do
 let st ←get
 match (if (pendingOf st).size>1 then (pendingOf st)[(pendingOf st).size-2]? else none) with
 | some (_,_,a)=>if a<=b then pure (.done (none,())) else do
   if (!(←mergeAt' ((pendingOf st).size-2)))=true then pure (.done (some (),())) else pure (.yield (none,()))
 | _=>pure (.done (none,()))
def srM(size lo n:Nat):StateT SortSt Sem (ForInStep (Option Unit×Nat)):=do
 let st ←get
 match (pendingOf st).back? with
 | some (b,a,_)=>do
   let s ←forIn [0:size] ((none,()):Option Unit×Unit) λ_ _=>srC (power' size (2*b+a) (2*b+a+a+n) size)
   match s.1 with
   | some r=>pure (.done (some r,lo))
   | none=>do
     modify λs=>setPending s ((pendingOf s).modify ((pendingOf s).size-1) λx=>match x with |(st,len,_)=>(st,len,power' size (2*b+a) (2*b+a+a+n) size))
     srP lo n
 | _=>srP lo n
def srB(size a:Nat)(lo:Nat):StateT SortSt Sem (ForInStep (Option Unit×Nat)):=
 if lo≥size then pure (.done (none,lo)) else do
  match ←countRun' lo (size-lo) with
  | some n=>
    if n<a then do
     rule "list.sort.binary-insertion"
     if (!(←binarySort' lo (min (size-lo) a) n))=true then pure (.done (some (),lo)) else srM size lo (min (size-lo) a)
    else srM size lo n
  | _=>pure (.done (some (),lo))
def srI(p:Array (Nat×Nat×Nat)):Nat:=if Option.any (λx=>decide (x<p[p.size-2+1]?.elim 0 λx=>x.2.1)) (if p.size-2>0 then Option.map (λx=>x.2.1) p[p.size-2-1]? else none)=true then p.size-2-1 else p.size-2
def srF:StateT SortSt Sem (ForInStep (Option Unit×Unit)):=do
 let st ←get
 if (pendingOf st).size<=1 then pure (.done (none,())) else do
  if (!(←mergeAt' (srI (pendingOf st))))=true then pure (.done (some (),())) else pure (.yield (none,()))
theorem sortRuns'_eq:sortRuns'=(do
 let st ←get
 let s ←forIn [0:(arrOf st).size] ((none,0):Option Unit×Nat) λ_ c=>srB (arrOf st).size (minRun' (arrOf st).size (arrOf st).size 0) c.2
 match s.1 with
 | some r=>pure r
 | none=>do
   let s ←forIn [0:(arrOf st).size] ((none,()):Option Unit×Unit) λ_ _=>srF
   match s.1 with
   | some r=>pure r
   | none=>pure ()):=by kernel_rfl
section
variable{prog:Program}{κ:SortKind}{a₀:Array Keyed}{st:SortSt}{e lo:Nat}
end
end Tip
namespace Tim
open PySem PyProof.Rows Tip
section
variable{prog:Program}{κ:SortKind}{a₀:Array Keyed}
structure wH(prog:Program)(w:World)(A:Around)(s:Shared)(κ:SortKind)(a₀:Array Keyed)(rk:Value->Nat):Prop where
 ask:∀p∈a₀.toList,∀q∈a₀.toList,∀(E:zzx)(Q:Bool->Shared->Prop),Q (decide (rk p.1<rk q.1)) s->wpAny (model prog w) A (keyLt' κ p.1 q.1) Q E s
def R(rk:Value->Nat)(xs:Array Keyed)(i:Nat):Nat:=match xs[i]? with
 | some p=>rk p.1
 | none=>0
theorem kY{xs ys:Array Keyed}(h:xs[i]?=ys[j]?):R rk xs i=R rk ys j:=by unfold R;rw[h]
theorem je{a:Array Keyed}(h:i<a.size):R rk a i=rk (a[i]).1:=by unfold R;rw[getElem?_pos a i h]
theorem zV{st:SortSt}{p q:Keyed}{Q:Option Bool->SortSt->Prop}(C:wH prog w A s κ a₀ rk)(c:kindOf st=κ)(b:p∈a₀.toList)(a:q∈a₀.toList)(h:Q (some (decide (rk p.1<rk q.1))) st):
 wpS (model prog w) A E s (lt' p q) Q st:=by
 rw[lt'_eq];refine aaB (wpS_get ?_);rw[c];exact aaB (wpS_lift (wpAny_attempt (C.ask p b q a _ _ ⟨Z,aaG h⟩)))
def By(left:Bool)(k r:Nat):Prop:=if left then r<k else r<=k
theorem oM{st:SortSt}{left:Bool}{key:Keyed}{a:Array Keyed}{base:Nat}{Q:Option Bool->SortSt->Prop}(C:wH prog w A s κ a₀ rk)(d:kindOf st=κ)(c:key∈a₀.toList)(e:Of a₀ a)(hi:base+i<a.size)(h:∀b:Bool,(b=true↔By left (rk key.1) (R rk a (base+i)))->Q (some b) st):wpS (model prog w) A E s (sS left key a base i) Q st:=by
 unfold sS;rw[je hi] at h;refine aaB (cB hi ?_);cases left with
 | true=>exact zV C d (e.get hi) c (h _ decide_eq_true_iff)
 | false=>exact aaB (zV C d c (e.get hi) (aaG (h _ (by
    rw[Bool.not_eq_true',decide_eq_false_iff_not,Nat.not_lt];exact Iff.rfl))))
def Seg(rk:Value->Nat)(xs:Array Keyed)(lo hi:Nat):Prop:=∀i j,lo<=i->i<=j->j<hi->R rk xs i<=R rk xs j
theorem By.anti{left:Bool}{r a:Nat}(h:By left k r)(le:a<=r):By left k a:=by
 unfold By at *;cases left<;>simp at * <;> lia
def Cut(rk:Value->Nat)(left:Bool)(b:Nat)(a:Array Keyed)(base n lo hi:Nat):Prop:=lo<=hi/\hi<=n/\(∀i,i<lo->By left b (R rk a (base+i))) /\ ∀i,hi<=i->i<n -> ¬By left b (R rk a (base+i))
theorem Nb{st:SortSt}{left:Bool}{key:Keyed}{a:Array Keyed}{base lo:Nat}{Q:zzr}(C:wH prog w A s κ a₀ rk)(j:kindOf st=κ)(f:key∈a₀.toList)(q:Of a₀ a)(u:base+n<=a.size)(hs:Seg rk a base (base+n))(c:Cut rk left (rk key.1) a base n lo hi)(v:hi<=lo+n)(h:∀k,Cut rk left (rk key.1) a base n k k->Q (some k) st):wpS (model prog w) A E s (glB left key a base n lo hi) Q st:=by
 unfold glB;refine aaB (wpS_mono (wpS_forRange (I:=λx c d=>d=st /\ ∃lo hi,c=(none,lo,hi)/\Cut rk left (rk key.1) a base n lo hi/\hi-lo<=n-x) (Q:=λc d=>d=st /\ ∃k,c=(none,k,k)/\Cut rk left (rk key.1) a base n k k) ?_ ?_ ⟨Z,lo,hi,Z,c,by lia⟩) ?_)
 .rintro x c d _ r ⟨rfl,lo,hi,rfl,c,le⟩
  obtain⟨F,p,o,m⟩:=id c;dsimp only;refine bC (λz=>?_) (λz=>?_)
  .have e:lo=hi:=by lia
   subst e;exact aaG ⟨Z,lo,Z,c⟩
  refine aaB (oM C j f q (by lia) λb g=>?_);dsimp only;refine bC (λt=>aaG ⟨Z,_,_,Z,⟨by lia,p,λi l=>?_,m⟩,by lia⟩) (λt=>aaG ⟨Z,_,_,Z,⟨by lia,by lia,o,λi D B y=>t (g.mpr ?_)⟩,by lia⟩)
  .exact(g.mp t).anti (hs _ _ (by lia) (by lia) (by lia))
  .exact y.anti (hs _ _ (by lia) (by lia) (by lia))
 .rintro c d ⟨rfl,lo,hi,rfl,c,le⟩
  have e:lo=hi:=by have:=c.1;lia
  subst e;exact⟨Z,lo,Z,c⟩
 .rintro c d ⟨rfl,k,rfl,c⟩
  exact aaG (h k c)
theorem ju{st:SortSt}{left:Bool}{key:Keyed}{e:Array Keyed}{base a:Nat}{Q:zzr}(C:wH prog w A s κ a₀ rk)(p:kindOf st=κ)(f:key∈a₀.toList)(B:Of a₀ e)(G:base+n<=e.size)(J:a<n)(hs:Seg rk e base (base+n))(h:∀k,Cut rk left (rk key.1) e base n k k->Q (some k) st):
 wpS (model prog w) A E s (mX left key e base n a) Q st:=by
 rw[Ly];refine aaB (oM C p f B (by lia) λb F=>?_);dsimp only;refine bC (λt=>?_) (λt=>?_)
 .refine aaB (wpS_mono (wpS_forRange (I:=λx c d=>d=st /\ ∃l o,c=(none,l,o)/\l<o/\x<o/\a+l<n/\By left (rk key.1) (R rk e (base+(a+l))))
   (Q:=λc d=>d=st /\ ∃l o,c=(none,l,o)/\l<o/\a+l<n/\By left (rk key.1) (R rk e (base+(a+l)))/\(o<n-a -> ¬By left (rk key.1) (R rk e (base+(a+o))))) ?_ ?_ ⟨Z,0,1,Z,by lia,by lia,by lia,F.mp t⟩) ?_)
  .rintro x c d _ H ⟨rfl,l,o,rfl,m,v,j,g⟩
   dsimp only;refine bC (λz=>aaG ⟨Z,l,o,Z,m,j,g,λy=>by lia⟩) (λz=>?_);refine aaB (oM C p f B (by lia) λb u=>?_);dsimp only;refine bC (λy=>aaG ⟨Z,l,o,Z,m,j,g,λ_ q=>?_⟩) (λy=>aaG ⟨Z,_,_,Z,by lia,by lia,by lia,u.mp ?_⟩)
   .rw[u.mpr q] at y;cases y
   .cases b
    .exact ac' rfl y
    .rfl
  .rintro c d ⟨rfl,l,o,rfl,m,v,j,g⟩
   exact⟨Z,l,o,Z,m,j,g,λz=>by lia⟩
  .rintro c d ⟨rfl,l,o,rfl,m,v,j,g⟩
   refine Nb C p f B G hs ⟨by dsimp only;lia,by dsimp only;lia,λi r=>?_,λi r D q=>?_⟩ (by dsimp only;lia) h<;>dsimp only at r
   .exact j.anti (hs _ _ (by lia) (by lia) (by lia))
   .exact g (by lia) (q.anti (hs _ _ (by lia) (by lia) (by lia)))
 .refine aaB (wpS_mono (wpS_forRange (I:=λx c d=>d=st /\ ∃l o,c=(none,l,o)/\l<o/\x<o/\l<=a /\ ¬By left (rk key.1) (R rk e (base+(a-l))))
   (Q:=λc d=>d=st /\ ∃l o,c=(none,l,o)/\l<o/\l<=a /\ ¬By left (rk key.1) (R rk e (base+(a-l)))/\(o<a+1->By left (rk key.1) (R rk e (base+(a-o))))) ?_ ?_ ⟨Z,0,1,Z,by lia,by lia,by lia,λq=>t (F.mpr q)⟩) ?_)
  .rintro x c d _ H ⟨rfl,l,o,rfl,m,v,j,g⟩
   dsimp only;refine bC (λz=>aaG ⟨Z,l,o,Z,m,j,g,λy=>by lia⟩) (λz=>?_);refine aaB (oM C p f B (by lia) λb u=>?_);dsimp only;exact bC (λy=>aaG ⟨Z,l,o,Z,m,j,g,λ_=>u.mp y⟩) (λy=>aaG ⟨Z,_,_,Z,by lia,by lia,by lia,λq=>y (u.mpr q)⟩)
  .rintro c d ⟨rfl,l,o,rfl,m,v,j,g⟩
   exact⟨Z,l,o,Z,m,j,g,λz=>by lia⟩
  .rintro c d ⟨rfl,l,o,rfl,m,v,j,g⟩
   refine Nb C p f B G hs ⟨by dsimp only;lia,by dsimp only;lia,λi r=>?_,λi r D q=>?_⟩ (by dsimp only;lia) h<;>dsimp only at r
   .exact(g (by lia)).anti (hs _ _ (by lia) (by lia) (by lia))
   .exact j (q.anti (hs _ _ (by lia) (by lia) (by lia)))
end
def Rt(rk:Value->Nat)(l:List Keyed):Prop:=l.Pairwise λx y=>rk x.1<=rk y.1
section
variable{a b out:Array Keyed}
theorem Vt{a:Array Keyed}{x:Keyed}(h:x∈a.toList.drop ia):∃j,ia<=j/\j<a.size/\R rk a j=rk x.1:=by
 obtain⟨j,b,e⟩:=ac2 h;rw[List.length_drop,aaH] at b;rw[List.getElem_drop,Array.getElem_toList] at e;exact⟨ia+j,by lia,by lia,by rw[je (by lia),e]⟩
theorem jP{a:Array Keyed}{x:Keyed}(h:x∈(a.toList.drop ia).take k):∃j,j<k/\ia+j<a.size/\R rk a (ia+j)=rk x.1:=by
 obtain⟨j,b,e⟩:=ac2 h;rw[acX,List.length_drop,aaH] at b;rw[List.getElem_take,List.getElem_drop,Array.getElem_toList] at e;exact⟨j,by lia,by lia,by rw[je (by lia),e]⟩
theorem jM{x y:List Keyed}:Rt rk (x++y)↔Rt rk x/\Rt rk y /\ ∀p∈x,∀q∈y,rk p.1<=rk q.1:=List.pairwise_append
theorem Seg.Nv(h:Seg rk a 0 a.size):Rt rk a.toList:=List.pairwise_iff_getElem.mpr λi j d b c=>by
 rw[aaH] at d b;have:=h i j (Nat.zero_le _) (ac6 c) b;rw[je d,je b] at this;simpa using this
structure MI(rk:Value->Nat)(a b out:Array Keyed)(ia ib:Nat):Prop where
 p:Pm a b out ia ib
 sa:Rt rk (out.toList++a.toList.drop ia)
 sb:Rt rk (out.toList++b.toList.drop ib)
def Ms(rk:Value->Nat)(a b r:Array Keyed):Prop:=Mg a b r/\Rt rk r.toList
theorem MI.swap(m:MI rk a b out ia ib):MI rk b a out ib ia:=⟨m.p.swap,m.sb,m.sa⟩
theorem MI.q_(m:MI rk a b out ia ib)(hle:∀i,i<k->ib+i<b.size -> ∀j,ia<=j->j<a.size->R rk b (ib+i)<=R rk a j):MI rk a b (out++b.extract ib (ib+k)) ia (ib+k):=by
 have e:(out++b.extract ib (ib+k)).toList=out.toList++(b.toList.drop ib).take k:=by rw[Array.toList_append,cV];congr 2;lia
 have g:=uw b.toList ib k;refine⟨m.p.q_,?_,by rw[e,List.append_assoc,←g];exact m.sb⟩;rw[e,List.append_assoc];have f:=jM.mp m.sa;have l:=m.sb;rw[g] at l;have h:=jM.mp l;have v:=jM.mp h.2.1;refine jM.mpr ⟨f.1,jM.mpr ⟨v.1,f.2.1,λp d q c=>?_⟩,λp d q c=>?_⟩
 .obtain⟨i,u,t,s⟩:=jP (rk:=rk) d
  obtain⟨j,r,o,n⟩:=Vt (rk:=rk) c;rw[←s,←n];exact hle i u t j r o
 .rcases acG.mp c with c|c
  .exact h.2.2 p d q (List.mem_append_left _ c)
  .exact f.2.2 p d q c
theorem MI.rm(m:MI rk a b out ia ib)(hle:∀i,i<k->ia+i<a.size -> ∀j,ib<=j->j<b.size->R rk a (ia+i)<=R rk b j):MI rk a b (out++a.extract ia (ia+k)) (ia+k) ib:=(m.swap.q_ hle).swap
theorem MI.Bj(m:MI rk a b out ia ib)(h:ib<b.size)(hle:∀j,ia<=j->j<a.size->R rk b ib<=R rk a j):MI rk a b (out.push b[ib]) ia (ib+1):=by
 rw[Uh h];refine m.q_ (k:=1) λi e f j d c=>?_;rw[show i=0 by lia];exact hle j d c
theorem MI.Bk(m:MI rk a b out ia ib)(h:ia<a.size)(hle:∀j,ib<=j->j<b.size->R rk a ia<=R rk b j):MI rk a b (out.push a[ia]) (ia+1) ib:=(m.swap.Bj h hle).swap
theorem JL{l:Array Keyed}(h:l.size<=i):l.toList.drop i=[]:=List.drop_eq_nil_of_le (by rw[aaH];exact h)
theorem MI.done(m:MI rk a b out ia ib)(h:ia=a.size\/ib=b.size):Ms rk a b (iT a b out ia ib):=by
 refine⟨m.p.done,?_⟩
 have e:(iT a b out ia ib).toList=out.toList++(a.toList.drop ia++b.toList.drop ib):=by
  unfold iT;rw[Array.toList_append,Array.toList_append,cV,cV,List.append_assoc,List.take_of_length_le (by rw[List.length_drop,aaH];exact aaw _),List.take_of_length_le (by rw[List.length_drop,aaH];exact aaw _)]
 rw[e];rcases h with h|h
 .rw[JL (Nat.le_of_eq h.symm),List.nil_append];exact m.sb
 .rw[JL (l:=b) (Nat.le_of_eq h.symm),List.append_nil];exact m.sa
theorem MI.last(m:MI rk a b out ia ib)(d:ib<=b.size)(h:∀i j,i<b.size->ia<=j->j<a.size->R rk b i<=R rk a j):Ms rk a b (ug a b out ia ib):=by
 have c:=(m.q_ (k:=b.size-ib) λi l d j g f=>h _ _ d g f).done (.inr (by lia));rw[show ib+(b.size-ib)=b.size by lia] at c
 have e:iT a b (out++b.extract ib b.size) ia b.size=ug a b out ia ib:=by
  unfold iT ug;apply Array.toList_inj.mp;rw[Array.toList_append,cV (a:=b) (i:=b.size),Nat.sub_self,List.take_zero,List.append_nil]
 rwa [e] at c
structure Bo(rk:Value->Nat)(a b:Array Keyed):Prop where
 sa:Seg rk a 0 a.size
 sb:Seg rk b 0 b.size
 f:R rk b 0<=R rk a 0
 l:R rk b (b.size-1)<=R rk a (a.size-1)
theorem Bo.mid(c:Bo rk a b)(hi:i<b.size)(e:a.size<=j+1)(f:j<a.size):R rk b i<=R rk a j:=by
 have e:=c.sb i (b.size-1) (Nat.zero_le _) (by lia) (by lia);have d:=c.l;rw[show a.size-1=j by lia] at d;exact ac5 e d
def LJ(rk:Value->Nat)(a b:Array Keyed)(n:Nat){c:Type}:Option (Array Keyed)×Array Keyed×Nat×Nat×c->Prop
 | (none,out,ia,ib,_)=>MI rk a b out ia ib/\ia+2<=a.size/\ib+1<=b.size/\n<=out.size
 | _=>False
def LK(rk:Value->Nat)(a b:Array Keyed)(n:Nat){d:Type}:Option (Array Keyed)×Array Keyed×Nat×Nat×d->Prop
 | (some r,_)=>Ms rk a b r
 | c=>LJ rk a b n c
def LL(rk:Value->Nat)(a b:Array Keyed)(m n:Nat){d:Type}:ForInStep (Option (Array Keyed)×Array Keyed×Nat×Nat×d)->Prop
 | .done c=>LK rk a b m c
 | .yield c=>LJ rk a b n c
def LM(rk:Value->Nat)(a b:Array Keyed)(n:Nat){d:Type}:ForInStep (Option (Array Keyed)×Array Keyed×Nat×Nat×d)->Prop
 | .done c=>∃r t,c=(some r,t)/\Ms rk a b r
 | .yield c=>LJ rk a b n c
end
section
variable{prog:Program}{κ:SortKind}{a₀ a b out:Array Keyed}{mg:Nat}{st st0:SortSt}
theorem M5(c:Bo rk a b)(h:MI rk a b out ia ib)(nx:∀j,ib<=j->j<b.size->R rk a ia<=R rk b j)(u:ia+2<=a.size)(g:ib+1<=b.size)(t:m<=out.size)(q:n<=out.size+1)(f:sW st0 st):
 wpS (model prog w) A E s (loC a b ia mg ac bc out ib) (λr d=>sW st0 d/\LL rk a b m n r) st:=by
 unfold loC;refine aaB (cB (by lia) ?_);have p:=h.Bk (show ia<a.size by lia) nx;dsimp only;refine bC (λe=>aaG ⟨f,p.last (by lia) λi j l o k=>c.mid l ?_ k⟩) (λe=>?_)
 .have e:ia+1+1=a.size:=by simpa using e
  lia
 have e:¬ia+1+1=a.size:=by simpa using e
 have z:(out.push (a[ia]'(by lia))).size=out.size+1:=Array.size_push _;exact bC (λ_=>aaG ⟨f,p,by lia,g,by lia⟩) (λ_=>aaG ⟨f,p,by lia,g,by lia⟩)
theorem M6(C:wH prog w A s κ a₀ rk)(N:Of a₀ a)(M:Of a₀ b)(c:Bo rk a b)(G:MI rk a b out ia ib)(nx:∀j,ia<=j->j<a.size->R rk b ib<=R rk a j)(D:ia+2<=a.size)(B:ib+1<=b.size)(Q:m<=out.size)(P:n<=out.size+1)(h:sW st0 st)(I:kindOf st=κ):
 wpS (model prog w) A E s (loB a b ib mg ac bc out ia) (λr o=>sW st0 o/\LL rk a b m n r) st:=by
 unfold loB;refine aaB (cB B ?_);have p:=G.Bj B nx;have z:(out.push b[ib]).size=out.size+1:=Array.size_push _;dsimp only;generalize out.push b[ib]=v at p z ⊢;refine bC (λe=>aaG ⟨h,p.done (.inr (by simpa using e))⟩) (λe=>?_);have e:¬ib+1=b.size:=by simpa using e
 have u:ia<a.size:=by lia
 refine aaB (cB u (aaB (ju C I (N.get u) M (by lia) (by lia) (λi j x y z=>c.sb i j (Nat.zero_le _) y (by lia)) λk K=>?_)));obtain⟨_,H,f,g⟩:=K;rw[←je (rk:=rk) u] at f g;dsimp only
 have q:MI rk a b (v++b.extract (ib+1) (ib+1+k)) ia (ib+1+k):=p.q_ λi J L j t l=>by
  have F:R rk b (ib+1+i)<R rk a ia:=f i J;have S:=c.sa ia j (Nat.zero_le _) t l;lia
 have d:∀j,ib+1+k<=j->j<b.size->R rk a ia<=R rk b j:=λj t l=>by
  have F:¬R rk b (ib+1+(j-(ib+1)))<R rk a ia:=g (j-(ib+1)) (by lia) (by lia);rw[show ib+1+(j-(ib+1))=j by lia] at F;lia
 refine bC (λ_=>bC (λe=>aaG ⟨h,q.done (.inr (by simpa using e))⟩) (λe=>?_)) (λO=>?_)
 .have e:¬ib+1+k=b.size:=by simpa using e
  exact M5 c q d D (by lia) (by rw[Array.size_append];lia) (by rw[Array.size_append];lia) h
 .exact M5 c p (λj t l=>d j (by lia) l) D (by lia) (by lia) (by lia) h
theorem M7(C:wH prog w A s κ a₀ rk)(D:Of a₀ a)(B:Of a₀ b)(c:Bo rk a b)(H:MI rk a b out ia ib)(N:ia+2<=a.size)(o:ib+1<=b.size)(K:m<=out.size)(J:n<=out.size+1)(d:sW st0 st)(h:kindOf st0=κ):
 wpS (model prog w) A E s (loA a b out ia ib ac bc mg) (λr u=>sW st0 u/\LL rk a b m n r) st:=by
 unfold loA;refine aaB (rK λO I=>?_);have d:=d.trans I;have h:=d.k.trans h;refine aaB (cB o (aaB (ju C h (B.get o) D (by lia) (by lia) (λi j x y z=>c.sa i j (Nat.zero_le _) y (by lia)) λk M=>?_)));obtain⟨_,L,g,l⟩:=M;rw[←je (rk:=rk) o] at g l;dsimp only
 have q:MI rk a b (out++a.extract ia (ia+k)) (ia+k) ib:=H.rm λi v Q j t f=>by
  have p:R rk a (ia+i)<=R rk b ib:=g i v;have F:=c.sb ib j (Nat.zero_le _) t f;lia
 have G:∀j,ia+k<=j->j<a.size->R rk b ib<=R rk a j:=λj t f=>by
  have p:¬R rk a (ia+(j-ia))<=R rk b ib:=l (j-ia) (by lia) (by lia);rw[show ia+(j-ia)=j by lia] at p;lia
 refine bC (λ_=>bC (λe=>aaG ⟨d,q.last (by lia) λi j v t f=>c.mid v ?_ f⟩) (λp=>bC (λe=>aaG ⟨d,q.done (.inl (by simpa using e))⟩) (λF=>?_))) (λP=>M6 C D B c H (λj t f=>G j (by lia) f) N o K J d h)
 .have e:ia+k+1=a.size:=by simpa using e
  lia
 have p:¬ia+k+1=a.size:=by simpa using p
 have F:¬ia+k=a.size:=by simpa using F
 exact M6 C D B c q G (by lia) o (by rw[Array.size_append];lia) (by rw[Array.size_append];lia) d h
theorem Xi(C:wH prog w A s κ a₀ rk)(x:Of a₀ a)(v:Of a₀ b)(c:Bo rk a b)(l:MI rk a b out ia ib)(o:ia+2<=a.size)(d:ib+1<=b.size)(D:m<=out.size+1)(B:n<=out.size+1)(q:kindOf st=κ):
 wpS (model prog w) A E s (Tip.lo1 a b mg (none,out,ia,ib,ac,bc)) (λr k=>k=st/\LL rk a b m n r) st:=by
 unfold Tip.lo1;dsimp only;have g:ia<a.size:=by lia
 refine aaB (cB d (aaB (cB g (aaB (zV C q (v.get d) (x.get g) ?_)))));rw[←je (rk:=rk) d,←je (rk:=rk) g];dsimp only;refine bC (λt=>aaB (cB d ?_)) (λt=>aaB (cB g ?_))
 .have t:=aaT t
  have p:=l.Bj d λj h f=>by have:=c.sa ia j (Nat.zero_le _) h f;lia
  have z:(out.push b[ib]).size=out.size+1:=Array.size_push _;refine bC (λe=>aaG ⟨Z,p.done (.inr (by simpa using e))⟩) (λe=>?_);have e:¬ib+1=b.size:=by simpa using e
  exact bC (λ_=>aaG ⟨Z,p,o,by lia,by lia⟩) (λ_=>aaG ⟨Z,p,o,by lia,by lia⟩)
 .have t:¬R rk b ib<R rk a ia:=λy=>t (aaO y)
  have p:=l.Bk g λj h f=>by have:=c.sb ib j (Nat.zero_le _) h f;lia
  have z:(out.push a[ia]).size=out.size+1:=Array.size_push _;refine bC (λe=>aaG ⟨Z,p.last (by lia) λi j u h f=>c.mid u ?_ f⟩) (λe=>?_)
  .have e:ia+1+1=a.size:=by simpa using e
   lia
  have e:¬ia+1+1=a.size:=by simpa using e
  exact bC (λ_=>aaG ⟨Z,p,by lia,d,by lia⟩) (λ_=>aaG ⟨Z,p,by lia,d,by lia⟩)
theorem Xh(C:wH prog w A s κ a₀ rk)(l:Of a₀ a)(k:Of a₀ b)(c:Bo rk a b)(o:MI rk a b out ia ib)(v:ia+2<=a.size)(u:ib+1<=b.size)(t:n<=out.size)(j:kindOf st0=κ)(i:sW st0 st):
 wpS (model prog w) A E s (loO a b (none,out,ia,ib,mg)) (λr e=>sW st0 e/\LM rk a b (n+1) r) st:=by
 unfold loO;dsimp only;refine aaB (wpS_mono (wpS_forRange (I:=λy c d=>d=st/\LJ rk a b (n+y) c) (Q:=λc d=>d=st/\LK rk a b (n+1) c) ?_ ?_ ⟨Z,o,v,u,t⟩) ?_)
 .rintro y ⟨_|r,out,ia,ib,ac,g⟩ _ _ _ ⟨rfl,h⟩
  .obtain⟨p,q1,q2,q3⟩:=h
   refine wpS_mono (Xi (m:=n+1) (n:=n+(y+1)) C l k c p q1 q2 (by lia) (by lia) (i.k.trans j)) λr e h=>?_;cases r with
   | done c=>exact h
   | yield c=>exact h
  .exact h.elim
 .rintro⟨_|r,out,ia,ib,ac,g⟩ _ ⟨rfl,h⟩
  .obtain⟨p,q1,q2,q3⟩:=h
   have:=p.p.size (by lia);lia
  .exact h.elim
 rintro⟨_|r,out,ia,ib,ac,g⟩ _ ⟨rfl,h⟩
 .obtain⟨p,q1,q2,q3⟩:=h
  dsimp only;refine aaB (wpS_lift (wpAny_rule ⟨Z,?_⟩));refine aaB (wpS_mono (wpS_forRange (I:=λy c d=>sW st0 d/\LJ rk a b (n+1+y) c) (Q:=λc d=>sW st0 d/\LK rk a b (n+1) c) ?_ ?_ ⟨i,p,q1,q2,q3⟩) ?_)
  .rintro y ⟨_|r,out,ia,ib,mg,ac,g⟩ d _ _ ⟨f,h⟩
   .obtain⟨p,q1,q2,q3⟩:=h
    dsimp only;refine wpS_mono (bC (λ_=>M7 (m:=n+1) (n:=n+1+(y+1)) C l k c p q1 q2 (by lia) (by lia) f j) (λ_=>M7 C l k c p q1 q2 (by lia) (by lia) f j)) λr e h=>?_;cases r with
    | done c=>exact h
    | yield c=>exact h
   .exact h.elim
  .rintro⟨_|r,out,ia,ib,mg,ac,g⟩ d ⟨f,h⟩
   .obtain⟨p,q1,q2,q3⟩:=h
    have:=p.p.size (by lia);lia
   .exact h.elim
  rintro⟨_|r,out,ia,ib,mg,ac,g⟩ d ⟨f,h⟩
  .exact aaB (rK λx q=>aaG ⟨f.trans q,h⟩)
  .exact aaG ⟨f,r,_,Z,h⟩
 .exact aaG ⟨i,r,_,Z,h⟩
theorem H_{Q:Array Keyed->SortSt->Prop}(C:wH prog w A s κ a₀ rk)(v:kindOf st=κ)(D:Of a₀ a)(z:Of a₀ b)(B:1<=a.size)(g:1<=b.size)(c:Bo rk a b)(h:∀r f,sW st f->Ms rk a b r->Q r f):wpS (model prog w) A E s (Bv a b) Q st:=by
 have p:MI rk a b #[b[0]] 0 1:=MI.Bj (a:=a) (b:=b) (out:= #[]) (ib:=0) (ia:=0) ⟨.refl _,by
  show Rt rk ([]++a.toList.drop 0);rw[List.nil_append,List.drop_zero];exact c.sa.Nv,by
  show Rt rk ([]++b.toList.drop 0);rw[List.nil_append,List.drop_zero];exact c.sb.Nv⟩ g λj q l=>ac5 c.f (c.sa 0 j (aaw _) (Nat.zero_le _) l)
 rw[Jm];refine aaB (wpS_lift (wpAny_rule ⟨Z,?_⟩));refine aaB (cB g ?_);dsimp only;refine bC (λe=>aaG (h _ _ (.refl _) (p.done (.inr (by simpa using e))))) (λo=>?_);refine bC (λe=>aaG (h _ _ (.refl _) (p.last (by lia) λi j x q l=>c.mid x ?_ l))) (λm=>?_)
 .have e:1=a.size:=by simpa using e
  lia
 have o:¬1=b.size:=by simpa using o
 have m:¬1=a.size:=by simpa using m
 refine aaB (wpS_get ?_);refine aaB (wpS_mono (wpS_forRange (I:=λy c d=>sW st d/\LJ rk a b y c) (Q:=λc d=>sW st d /\ ∃r t,c=(some r,t)/\Ms rk a b r) ?_ ?_ ⟨.refl _,p,by lia,by lia,Nat.zero_le _⟩) ?_)
 .rintro y ⟨_|r,out,ia,ib,mg⟩ d _ _ ⟨k,h⟩
  .obtain⟨p,q1,q2,q3⟩:=h
   refine wpS_mono (Xh (n:=y) C D z c p q1 q2 q3 v k) λr f h=>?_;cases r with
   | done c=>exact h
   | yield c=>exact h
  .exact h.elim
 .rintro⟨_|r,out,ia,ib,mg⟩ d ⟨k,h⟩
  .obtain⟨p,q1,q2,q3⟩:=h
   have:=p.p.size (by lia);lia
  .exact h.elim
 rintro c d ⟨k,r,t,rfl,u⟩;exact aaG (h _ _ k u)
end
section
variable{a b out:Array Keyed}{t:Nat}
structure MH(rk:Value->Nat)(a b out:Array Keyed)(na nb:Nat):Prop where
 p:Ph a b out na nb
 sa:Rt rk (a.toList.take na++out.toList.reverse)
 sb:Rt rk (b.toList.take nb++out.toList.reverse)
theorem QL{a:Array Keyed}{x:Keyed}(h:x∈a.toList.take na):∃j,j<na/\j<a.size/\R rk a j=rk x.1:=by
 have e:x∈(a.toList.drop 0).take na:=by rw[List.drop_zero];exact h
 obtain⟨j,d,c,b⟩:=jP (rk:=rk) e;rw[Nat.zero_add] at c b;exact⟨j,d,c,b⟩
theorem MH.rm(m:MH rk a b out na nb)(g:t<=na)(hle:∀i,t<=i->i<na->i<a.size -> ∀j,j<nb->j<b.size->R rk b j<=R rk a i):MH rk a b (out++(a.extract t na).reverse) t nb:=by
 have e:(out++(a.extract t na).reverse).toList.reverse=(a.toList.drop t).take (na-t)++out.toList.reverse:=by
  rw[Array.toList_append,List.reverse_append,Array.toList_reverse,List.reverse_reverse,cV]
 have f:a.toList.take na=a.toList.take t++(a.toList.drop t).take (na-t):=by
  rw[List.take_drop,show t+(na-t)=na by lia];have:=(List.take_append_drop t (a.toList.take na)).symm;rwa [List.take_take,Nat.min_eq_left g] at this
 refine⟨m.p.rm g,by rw[e,←List.append_assoc,←f];exact m.sa,?_⟩;rw[e];have l:=m.sa;rw[f,List.append_assoc] at l;have k:=jM.mp (jM.mp l).2.1;have d:=jM.mp m.sb;refine jM.mpr ⟨d.1,jM.mpr ⟨k.1,d.2.1,k.2.2⟩,λp h q c=>?_⟩;rcases acG.mp c with c|c
 .obtain⟨i,u,s,r⟩:=QL (rk:=rk) h
  obtain⟨j,v,o,n⟩:=jP (rk:=rk) c;rw[←r,←n];exact hle _ (by lia) (by lia) o i u s
 .exact d.2.2 p h q c
theorem MH.swap(m:MH rk a b out na nb):MH rk b a out nb na:=⟨m.p.swap,m.sb,m.sa⟩
theorem MH.q_(m:MH rk a b out na nb)(c:t<=nb)(hle:∀i,t<=i->i<nb->i<b.size -> ∀j,j<na->j<a.size->R rk a j<=R rk b i):MH rk a b (out++(b.extract t nb).reverse) na t:=(m.swap.rm c hle).swap
theorem MH.Bk(m:MH rk a b out na nb)(h:na-1<a.size)(e:1<=na)(hle:∀j,j<nb->j<b.size->R rk b j<=R rk a (na-1)):MH rk a b (out.push a[na-1]) (na-1) nb:=by
 rw[Ug h e];refine m.rm (Nat.sub_le _ _) λi k g f j d c=>?_;rw[show i=na-1 by lia];exact hle j d c
theorem MH.Bj(m:MH rk a b out na nb)(h:nb-1<b.size)(c:1<=nb)(hle:∀j,j<na->j<a.size->R rk a j<=R rk b (nb-1)):MH rk a b (out.push b[nb-1]) na (nb-1):=(m.swap.Bk h c hle).swap
theorem GQ:(iZ a b out na nb).toList=a.toList.take na++(b.toList.take nb++out.toList.reverse):=by
 unfold iZ;rw[Array.toList_append,Array.toList_append,cV,cV,Array.toList_reverse,List.append_assoc];rfl
theorem MH.done(m:MH rk a b out na nb)(h:na=0\/nb=0):Ms rk a b (iZ a b out na nb):=by
 refine⟨m.p.done,?_⟩;rw[GQ];rcases h with rfl|rfl
 .exact m.sb
 .exact m.sa
theorem MH.first(m:MH rk a b out na nb)(h:∀i j,i<nb->i<b.size->j<na->j<a.size->R rk b i<=R rk a j):Ms rk a b (sO a b out na nb):=by
 have c:=m.rm (t:=0) (by lia) λi _ k g j f d=>h j i f d k g
 have e:sO a b out na nb=iZ a b (out++(a.extract 0 na).reverse) 0 nb:=by
  apply Array.toList_inj.mp;rw[GQ,GQ,Array.toList_append,List.reverse_append,Array.toList_reverse,List.reverse_reverse,cV];simp
 rw[e];exact c.done (.inl rfl)
theorem Bo.fst(c:Bo rk a b)(hi:i<1)(d:j<a.size):R rk b i<=R rk a j:=by
 rw[show i=0 by lia];exact ac5 c.f (c.sa 0 j (aaw _) (Nat.zero_le _) d)
def HJ(rk:Value->Nat)(a b:Array Keyed)(n:Nat){c:Type}:Option (Array Keyed)×Nat×Nat×Array Keyed×c->Prop
 | (none,na,nb,out,_)=>MH rk a b out na nb/\Hd a b na nb/\n<=out.size
 | _=>False
def HK(rk:Value->Nat)(a b:Array Keyed)(n:Nat){d:Type}:Option (Array Keyed)×Nat×Nat×Array Keyed×d->Prop
 | (some r,_)=>Ms rk a b r
 | c=>HJ rk a b n c
def HL(rk:Value->Nat)(a b:Array Keyed)(m n:Nat){d:Type}:ForInStep (Option (Array Keyed)×Nat×Nat×Array Keyed×d)->Prop
 | .done c=>HK rk a b m c
 | .yield c=>HJ rk a b n c
def HM(rk:Value->Nat)(a b:Array Keyed)(n:Nat){d:Type}:ForInStep (Option (Array Keyed)×Nat×Nat×Array Keyed×d)->Prop
 | .done c=>∃r t,c=(some r,t)/\Ms rk a b r
 | .yield c=>HJ rk a b n c
end
section
variable{prog:Program}{κ:SortKind}{a₀ a b out:Array Keyed}{mg:Nat}{st st0:SortSt}
theorem M8(p:MH rk a b out na nb)(nx:∀j,j<nb->j<b.size->R rk b j<=R rk a (na-1))(h:Hd a b na nb)(q:m<=out.size)(o:n<=out.size+1)(d:sW st0 st):
 wpS (model prog w) A E s (hiC a b na mg ac bc out nb) (λr c=>sW st0 c/\HL rk a b m n r) st:=by
 obtain⟨l,k,t,g⟩:=h;unfold hiC;have i:na-1<a.size:=by lia
 refine aaB (cB i ?_);have p:=p.Bk i l nx;have z:(out.push a[na-1]).size=out.size+1:=Array.size_push _;dsimp only;refine bC (λe=>aaG ⟨d,p.done (.inl (by simpa using e))⟩) (λe=>?_);have e:¬na-1=0:=by simpa using e
 have f:Hd a b (na-1) nb:=⟨by lia,k,by lia,g⟩;exact bC (λ_=>aaG ⟨d,p,f,by lia⟩) (λ_=>aaG ⟨d,p,f,by lia⟩)
theorem M9(C:wH prog w A s κ a₀ rk)(N:Of a₀ a)(M:Of a₀ b)(c:Bo rk a b)(p:MH rk a b out na nb)(nx:∀j,j<na->j<a.size->R rk a j<=R rk b (nb-1))(h:Hd a b na nb)(S:m<=out.size)(Q:n<=out.size+1)(l:sW st0 st)(K:kindOf st=κ):
 wpS (model prog w) A E s (hiB a b nb mg ac bc out na) (λr v=>sW st0 v/\HL rk a b m n r) st:=by
 obtain⟨I,U,H,T⟩:=h;unfold hiB;have i:nb-1<b.size:=by lia
 have j:na-1<a.size:=by lia
 refine aaB (cB i ?_);have p:=p.Bj i (by lia) nx;have z:(out.push b[nb-1]).size=out.size+1:=Array.size_push _;dsimp only;generalize out.push b[nb-1]=G at p z ⊢;refine bC (λe=>aaG ⟨l,p.first λi j D B o d=>c.fst ?_ d⟩) (λe=>?_)
 .have e:nb-1=1:=by simpa using e
  lia
 have e:¬nb-1=1:=by simpa using e
 refine aaB (cB j (aaB (ju C K (N.get j) M (by lia) (by lia) (λi j x y z=>c.sb i j (Nat.zero_le _) y (by lia)) λt L=>?_)));obtain⟨_,J,f,g⟩:=L;rw[←je (rk:=rk) j] at f g;simp only[Nat.zero_add] at f g;dsimp only
 have q:MH rk a b (G++(b.extract t (nb-1)).reverse) na t:=p.q_ J λi D B P j o d=>by
  have u:¬R rk b i<R rk a (na-1):=g i D B;have F:=c.sa j (na-1) (Nat.zero_le _) (by lia) (by lia);lia
 have k:∀j,j<t->j<b.size->R rk b j<=R rk a (na-1):=λj o d=>by
  have u:R rk b j<R rk a (na-1):=f j o;lia
 refine bC (λ_=>bC (λe=>aaG ⟨l,q.first λi j D B o d=>c.fst ?_ d⟩) (λu=>bC (λe=>aaG ⟨l,q.done (.inr (by simpa using e))⟩) (λF=>?_))) (λO=>M8 p (λj o d=>k j (by lia) d) ⟨I,by lia,H,by lia⟩ (by lia) (by lia) l)
 .have e:t=1:=by simpa using e
  lia
 have u:¬t=1:=by simpa using u
 have F:¬t=0:=by simpa using F
 exact M8 q k ⟨I,by lia,H,by lia⟩ (by rw[Array.size_append];lia) (by rw[Array.size_append];lia) l
theorem M_(C:wH prog w A s κ a₀ rk)(B:Of a₀ a)(v:Of a₀ b)(c:Bo rk a b)(p:MH rk a b out na nb)(h:Hd a b na nb)(L:m<=out.size)(K:n<=out.size+1)(g:sW st0 st)(k:kindOf st0=κ):
 wpS (model prog w) A E s (hiA a b out na nb ac bc mg) (λr l=>sW st0 l/\HL rk a b m n r) st:=by
 have P:=h;obtain⟨V,O,U,N⟩:=P;unfold hiA;have i:nb-1<b.size:=by lia
 refine aaB (rK λQ G=>?_);have g:=g.trans G;have k:=g.k.trans k;refine aaB (cB i (aaB (ju C k (v.get i) B (by lia) (by lia) (λi j x y z=>c.sa i j (Nat.zero_le _) y (by lia)) λt M=>?_)));obtain⟨_,J,d,f⟩:=M;rw[←je (rk:=rk) i] at d f;simp only[Nat.zero_add] at d f;dsimp only
 have q:MH rk a b (out++(a.extract t na).reverse) t nb:=p.rm J λi I H T j u o=>by
  have D:¬R rk a i<=R rk b (nb-1):=f i I H;have W:=c.sb j (nb-1) (Nat.zero_le _) (by lia) (by lia);lia
 have F:∀j,j<t->j<a.size->R rk a j<=R rk b (nb-1):=λj u o=>d j u;refine bC (λ_=>bC (λe=>aaG ⟨g,q.done (.inl (by simpa using e))⟩) (λD=>?_)) (λS=>M9 C B v c p (λj u o=>F j (by lia) o) h L K g k);have D:¬t=0:=by simpa using D
 exact M9 C B v c q F ⟨by lia,O,by lia,N⟩ (by rw[Array.size_append];lia) (by rw[Array.size_append];lia) g k
theorem Xk(C:wH prog w A s κ a₀ rk)(v:Of a₀ a)(u:Of a₀ b)(c:Bo rk a b)(p:MH rk a b out na nb)(h:Hd a b na nb)(I:m<=out.size+1)(H:n<=out.size+1)(q:kindOf st=κ):
 wpS (model prog w) A E s (hi1 a b mg (none,na,nb,out,ac,bc)) (λr f=>f=st/\HL rk a b m n r) st:=by
 obtain⟨o,D,B,x⟩:=h;unfold hi1;dsimp only;have i:nb-1<b.size:=by lia
 have j:na-1<a.size:=by lia
 refine aaB (cB i (aaB (cB j (aaB (zV C q (u.get i) (v.get j) ?_)))));rw[←je (rk:=rk) i,←je (rk:=rk) j];dsimp only;refine bC (λt=>aaB (cB j ?_)) (λt=>aaB (cB i ?_))
 .have t:=aaT t
  have p:=p.Bk j o λk l g=>by have:=c.sb k (nb-1) (Nat.zero_le _) (by lia) (by lia);lia
  have z:(out.push a[na-1]).size=out.size+1:=Array.size_push _;refine bC (λe=>aaG ⟨Z,p.done (.inl (by simpa using e))⟩) (λe=>?_);have e:¬na-1=0:=by simpa using e
  have d:Hd a b (na-1) nb:=⟨by lia,D,by lia,x⟩;exact bC (λ_=>aaG ⟨Z,p,d,by lia⟩) (λ_=>aaG ⟨Z,p,d,by lia⟩)
 .have t:¬R rk b (nb-1)<R rk a (na-1):=λy=>t (aaO y)
  have p:=p.Bj i (by lia) λk l g=>by have:=c.sa k (na-1) (Nat.zero_le _) (by lia) (by lia);lia
  have z:(out.push b[nb-1]).size=out.size+1:=Array.size_push _;refine bC (λe=>aaG ⟨Z,p.first λi j G F l g=>c.fst ?_ g⟩) (λe=>?_)
  .have e:nb-1=1:=by simpa using e
   lia
  have e:¬nb-1=1:=by simpa using e
  have d:Hd a b na (nb-1):=⟨o,by lia,B,by lia⟩;exact bC (λ_=>aaG ⟨Z,p,d,by lia⟩) (λ_=>aaG ⟨Z,p,d,by lia⟩)
theorem Xj(C:wH prog w A s κ a₀ rk)(l:Of a₀ a)(k:Of a₀ b)(c:Bo rk a b)(p:MH rk a b out na nb)(h:Hd a b na nb)(t:n<=out.size)(j:kindOf st0=κ)(i:sW st0 st):
 wpS (model prog w) A E s (hiO a b (none,na,nb,out,mg)) (λr e=>sW st0 e/\HM rk a b (n+1) r) st:=by
 unfold hiO;dsimp only;refine aaB (wpS_mono (wpS_forRange (I:=λy c d=>d=st/\HJ rk a b (n+y) c) (Q:=λc d=>d=st/\HK rk a b (n+1) c) ?_ ?_ ⟨Z,p,h,t⟩) ?_)
 .rintro y ⟨_|r,na,nb,out,ac,g⟩ _ _ _ ⟨rfl,h⟩
  .obtain⟨p,q,q3⟩:=h
   refine wpS_mono (Xk (m:=n+1) (n:=n+(y+1)) C l k c p q (by lia) (by lia) (i.k.trans j)) λr e h=>?_;cases r with
   | done c=>exact h
   | yield c=>exact h
  .exact h.elim
 .rintro⟨_|r,na,nb,out,ac,g⟩ _ ⟨rfl,h⟩
  .obtain⟨p,q,q3⟩:=h
   have:=p.p.size q.1 q.2.2.1;lia
  .exact h.elim
 rintro⟨_|r,na,nb,out,ac,g⟩ _ ⟨rfl,h⟩
 .obtain⟨p,q,q3⟩:=h
  dsimp only;refine aaB (wpS_lift (wpAny_rule ⟨Z,?_⟩));refine aaB (wpS_mono (wpS_forRange (I:=λy c d=>sW st0 d/\HJ rk a b (n+1+y) c) (Q:=λc d=>sW st0 d/\HK rk a b (n+1) c) ?_ ?_ ⟨i,p,q,q3⟩) ?_)
  .rintro y ⟨_|r,na,nb,out,mg,ac,g⟩ d _ _ ⟨f,h⟩
   .obtain⟨p,q,q3⟩:=h
    dsimp only;refine wpS_mono (bC (λ_=>M_ (m:=n+1) (n:=n+1+(y+1)) C l k c p q (by lia) (by lia) f j) (λ_=>M_ C l k c p q (by lia) (by lia) f j)) λr e h=>?_;cases r with
    | done c=>exact h
    | yield c=>exact h
   .exact h.elim
  .rintro⟨_|r,na,nb,out,mg,ac,g⟩ d ⟨f,h⟩
   .obtain⟨p,q,q3⟩:=h
    have:=p.p.size q.1 q.2.2.1;lia
   .exact h.elim
  rintro⟨_|r,na,nb,out,mg,ac,g⟩ d ⟨f,h⟩
  .exact aaB (rK λu o=>aaG ⟨f.trans o,h⟩)
  .exact aaG ⟨f,r,_,Z,h⟩
 .exact aaG ⟨i,r,_,Z,h⟩
theorem Ia{Q:Array Keyed->SortSt->Prop}(C:wH prog w A s κ a₀ rk)(B:kindOf st=κ)(G:Of a₀ a)(F:Of a₀ b)(m:1<=a.size)(D:1<=b.size)(c:Bo rk a b)(h:∀r f,sW st f->Ms rk a b r->Q r f):wpS (model prog w) A E s (Bw a b) Q st:=by
 have i:a.size-1<a.size:=by lia
 have g:∀x:Array Keyed,x.toList.take x.size=x.toList:=λx=>List.take_of_length_le (by rw[aaH];exact aaw _)
 have p:MH rk a b #[a[a.size-1]] (a.size-1) b.size:=by
  refine MH.Bk (out:= #[]) (na:=a.size) ⟨?_,?_,?_⟩ i m λj _ l=>c.mid l (by lia) i
  .unfold Ph
   rw[g,g];exact .refl _
  .rw[g]
   show Rt rk (a.toList++[]);rw[List.append_nil];exact c.sa.Nv
  .rw[g]
   show Rt rk (b.toList++[]);rw[List.append_nil];exact c.sb.Nv
 rw[Jo];refine aaB (wpS_lift (wpAny_rule ⟨Z,?_⟩));refine aaB (cB i ?_);dsimp only;refine bC (λe=>aaG (h _ _ (.refl _) (p.done (.inl (by simpa using e))))) (λu=>?_);refine bC (λe=>aaG (h _ _ (.refl _) (p.first λi j K J H l=>c.fst ?_ l))) (λo=>?_)
 .have e:b.size=1:=by simpa using e
  lia
 have u:¬a.size-1=0:=by simpa using u
 have o:¬b.size=1:=by simpa using o
 refine aaB (wpS_get ?_);refine aaB (wpS_mono (wpS_forRange (I:=λy c d=>sW st d/\HJ rk a b y c) (Q:=λc d=>sW st d /\ ∃r t,c=(some r,t)/\Ms rk a b r) ?_ ?_ ⟨.refl _,p,⟨by lia,by lia,by lia,aaw _⟩,Nat.zero_le _⟩) ?_)
 .rintro y ⟨_|r,na,v,out,mg⟩ d _ _ ⟨k,h⟩
  .obtain⟨p,q,q3⟩:=h
   refine wpS_mono (Xj (n:=y) C G F c p q q3 B k) λr f h=>?_;cases r with
   | done c=>exact h
   | yield c=>exact h
  .exact h.elim
 .rintro⟨_|r,na,v,out,mg⟩ d ⟨k,h⟩
  .obtain⟨p,q,q3⟩:=h
   have:=p.p.size q.1 q.2.2.1;lia
  .exact h.elim
 rintro c d ⟨k,r,t,rfl,z⟩;exact aaG (h _ _ k z)
end
section
variable{prog:Program}{κ:SortKind}{a₀:Array Keyed}{st st':SortSt}
theorem wpS_ltAt{Q:Option Bool->SortSt->Prop}(C:wH prog w A s κ a₀ rk)(c:SB κ a₀ pd st)(hi:i<a₀.size)(a:j<a₀.size)(h:∀b:Bool,(b=true↔R rk (arrOf st) i<R rk (arrOf st) j)->Q (some b) st):wpS (model prog w) A E s (ltAt' i j) Q st:=by
 rw[ltAt'_eq];have hi:i<(arrOf st).size:=by rw[c.size];exact hi
 have a:j<(arrOf st).size:=by rw[c.size];exact a
 rw[je hi,je a] at h;exact aaB (wpS_get (aaB (cB hi (aaB (cB a (zV C c.kind (c.of.get hi) (c.of.get a) (h _ decide_eq_true_iff)))))))
def Kb(lo:Nat)(st a:SortSt):Prop:=∀i,i<lo->(arrOf a)[i]?=(arrOf st)[i]?
theorem Kb.refl{lo:Nat}:Kb lo st st:=λ_ _=>rfl
theorem Kb.trans{lo:Nat}{a b c:SortSt}(h:Kb lo a b)(g:Kb lo b c):Kb lo a c:=λi d=>(g i d).trans (h i d)
def Rv(i j:Nat)(st a:SortSt):Prop:=∀k,(arrOf a)[k]?=if i<=k/\k<j then (arrOf st)[i+j-1-k]? else (arrOf st)[k]?
theorem Rv.kb{lo:Nat}(h:Rv i j st st')(l:lo<=i):Kb lo st st':=λk a=>by rw[h k,ac9 (by lia)]
theorem Rv.R{i j:Nat}(h:Rv i j st st')(k:Nat):R rk (arrOf st') k=if i<=k/\k<j then R rk (arrOf st) (i+j-1-k) else R rk (arrOf st) k:=by
 have e:=h k
 by_cases z:i<=k/\k<j
 .rw[ac_ z] at e ⊢;exact kY e
 .rw[ac9 z] at e ⊢;exact kY e
theorem Rv.eq(h:Rv i j st st')(q:∀k,i<=k->k<j->Tim.R rk (arrOf st) k=Tim.R rk (arrOf st) (j-1))(k:Nat):Tim.R rk (arrOf st') k=Tim.R rk (arrOf st) k:=by
 rw[h.R];split
 .rw[q _ (by lia) (by lia),q k (by lia) (by lia)]
 .rfl
theorem yX{Q:PUnit->SortSt->Prop}(a:SB κ a₀ pd st)(b:j<=a₀.size)(h:∀st',SB κ a₀ pd st'->Rv i j st st'->Q ⟨⟩ st'):wpS (model prog w) A E s (reverseSlice' i j) Q st:=by
 rw[reverseSlice'_eq];exact wpS_modify (h _ (a.set (mirror_perm _ _ _ _)) λk=>getElem?_mirror_all (by rw[a.size];exact b) k)
def Dwn(rk:Value->Nat)(xs:Array Keyed)(lo hi:Nat):Prop:=∀i j,lo<=i->i<=j->j<hi->R rk xs j<=R rk xs i
theorem Seg.ext{xs:Array Keyed}{lo:Nat}(h:Seg rk xs lo hi)(g:R rk xs (hi-1)<=R rk xs hi)(l:lo<hi):Seg rk xs lo (hi+1):=λi j a b c=>by
 by_cases e:j<hi
 .exact h i j a b e
 .rw[show j=hi by lia]
  by_cases d:i=hi
  .rw[d];exact aaw _
  .exact ac5 (h i (hi-1) a (by lia) (by lia)) g
theorem Dwn.ext{xs:Array Keyed}{lo:Nat}(h:Dwn rk xs lo hi)(g:R rk xs hi<=R rk xs (hi-1))(l:lo<hi):Dwn rk xs lo (hi+1):=λi j a b c=>by
 by_cases e:j<hi
 .exact h i j a b e
 .rw[show j=hi by lia]
  by_cases d:i=hi
  .rw[d];exact aaw _
  .exact ac5 g (h i (hi-1) a (by lia) (by lia))
theorem Ng{lo a:Nat}{Q:Option (Option Nat)×Nat->SortSt->Prop}(C:wH prog w A s κ a₀ rk)(k:lo+nrem<=a₀.size)(l:1<=a)(g:a<=nrem)(i:SB κ a₀ pd st)(hs:Seg rk (arrOf st) lo (lo+a))(h:∀m,a<=m->m<=nrem->Seg rk (arrOf st) lo (lo+m)->(m=nrem\/R rk (arrOf st) (lo+m)<R rk (arrOf st) (lo+m-1))->Q (none,m) st):wpS (model prog w) A E s (crL lo nrem a) Q st:=by
 refine wpS_forRange (I:=λx c d=>d=st/\c=(none,x)/\Seg rk (arrOf st) lo (lo+x)) ?_ ?_ ⟨Z,Z,hs⟩
 .rintro x c d f j ⟨rfl,rfl,hs⟩
  refine aaB (wpS_ltAt C i (by dsimp only;lia) (by dsimp only;lia) λb e=>?_);refine bC (λt=>aaG (h x f (by lia) hs (.inr (e.mp t)))) (λt=>aaG ⟨Z,Z,?_⟩);exact hs.ext (Nat.le_of_not_lt λz=>t (e.mpr z)) (by lia)
 .rintro c d ⟨rfl,rfl,hs⟩
  rw[show max a nrem=nrem by lia] at hs ⊢;exact h nrem g (aaw _) hs (.inl rfl)
theorem Nf{lo:Nat}{Q:zzr}(C:wH prog w A s κ a₀ rk)(o:lo+nrem<=a₀.size)(g:1<=n)(f:n<=nrem)(q:SB κ a₀ pd st)(p:Dwn rk (arrOf st) lo (lo+n))(h:∀m st',SB κ a₀ pd st'->Kb lo st st'->1<=m->m<=nrem->Seg rk (arrOf st') lo (lo+m)->Q (some m) st'):wpS (model prog w) A E s (crR lo nrem n) Q st:=by
 refine aaB (yX q (by lia) λst' d e=>aaB (Ng C o g f d (λi j a b c=>?_) λm r k l _=>aaG (h m st' d (e.kb (aaw _)) (by lia) k l)));rw[e.R,e.R,ac_ (by lia),ac_ (by lia)];exact p _ _ (by lia) (by lia) (by lia)
structure Dq(rk:Value->Nat)(lo x q:Nat)(st:SortSt):Prop where
 d:Dwn rk (arrOf st) lo (lo+x)
 l:q+1<=x
 e:∀i,lo+x-(q+1)<=i->i<lo+x->R rk (arrOf st) i=R rk (arrOf st) (lo+x-1)
theorem Dq.one{lo x:Nat}(d:Dwn rk (arrOf st) lo (lo+x))(l:1<=x):Dq rk lo x 0 st:=⟨d,l,λi a b=>by congr 1;lia⟩
theorem Nh{lo:Nat}{Q:zzr}(C:wH prog w A s κ a₀ rk)(y:lo+nrem<=a₀.size)(L:n+1<=nrem)(H:SB κ a₀ pd st)(G:Dwn rk (arrOf st) lo (lo+(n+1)))(h:∀m st',SB κ a₀ pd st'->Kb lo st st'->1<=m->m<=nrem->Seg rk (arrOf st') lo (lo+m)->Q (some m) st'):wpS (model prog w) A E s (crD lo nrem n) Q st:=by
 unfold crD;refine aaB (wpS_lift (wpAny_rule ⟨Z,?_⟩));refine aaB (wpS_mono (wpS_forRange (I:=λx c st'=>SB κ a₀ pd st'/\Kb lo st st' /\ ∃q,c=(none,x,q)/\Dq rk lo x q st') (Q:=λc st'=>SB κ a₀ pd st'/\Kb lo st st' /\ ∃x q,c=(none,x,q)/\Dq rk lo x q st'/\x<=nrem) ?_ ?_ ⟨H,.refl,0,Z,.one G (by lia)⟩) ?_)
 .rintro x c st' K J ⟨d,f,q,rfl,e⟩
  dsimp only;unfold crB;have dl:=e.l;refine aaB (wpS_ltAt C d (by lia) (by lia) λb B=>?_);dsimp only;refine bC (λt=>?_) (λt=>?_)
  .have D:=e.d.ext (ac6 (B.mp t)) (by lia)
   refine bC (λ_=>aaB (yX d (by lia) λp o k=>aaG ⟨o,f.trans (k.kb (by lia)),_,Z,.one (λi j a b c=>?_) (by lia)⟩)) (λ_=>aaG ⟨d,f,_,Z,.one D (by lia)⟩);rw[k.eq e.e,k.eq e.e];exact D i j a b c
  refine aaB (wpS_ltAt C d (by lia) (by lia) λM u=>?_);refine bC (λ_=>aaG ⟨d,f,x,q,Z,e,by lia⟩) (λF=>aaG ⟨d,f,_,Z,?_⟩);have ge:R rk (arrOf st') (lo+x-1)<=R rk (arrOf st') (lo+x):=Nat.le_of_not_lt λz=>t (B.mpr z);have le:R rk (arrOf st') (lo+x)<=R rk (arrOf st') (lo+x-1):=Nat.le_of_not_lt λz=>F (u.mpr z);refine⟨e.d.ext le (by lia),by lia,λi a b=>?_⟩;rw[show lo+(x+1)-1=lo+x by lia]
  by_cases z:i=lo+x
  .rw[z]
  .rw[e.e i (by lia) (by lia)];lia
 .rintro c st' ⟨d,f,q,rfl,e⟩
  rw[show max (n+1) nrem=nrem by lia] at e ⊢;exact⟨d,f,nrem,q,Z,e,aaw _⟩
 .rintro c st' ⟨d,f,x,q,rfl,e,v⟩
  have dl:=e.l;refine bC (λ_=>aaB (yX d (by dsimp only;lia) λp o k=>Nf C y (by dsimp only;lia) v o (λi j a b c=>?_) λm g l r=>h m g l ((f.trans (k.kb (by dsimp only;lia))).trans r))) (λ_=>Nf C y (by dsimp only;lia) v d e.d λm g l r=>h m g l (f.trans r));rw[k.eq e.e,k.eq e.e];exact e.d i j a b c
theorem wpS_countRun{lo:Nat}{Q:zzr}(C:wH prog w A s κ a₀ rk)(o:lo+nrem<=a₀.size)(J:1<=nrem)(d:SB κ a₀ pd st)(h:∀m st',SB κ a₀ pd st'->Kb lo st st'->1<=m->m<=nrem->Seg rk (arrOf st') lo (lo+m)->Q (some m) st'):wpS (model prog w) A E s (countRun' lo nrem) Q st:=by
 rw[Tip.countRun'_eq];refine aaB (Ng C o (aaw _) J d (λi j a b c=>by rw[show i=j by lia];exact aaw _) λm v u f n=>?_);dsimp only;refine bC (λ_=>aaG (h m _ d .refl v u f)) (λe=>?_);have e:¬m=nrem:=λz=>e (beq_iff_eq.mpr z);have lt:=n.resolve_left e;refine bC (λ_=>aaB (wpS_ltAt C d (by lia) (by lia) λb I=>?_)) (λgt=>Nh C o (by lia) d (λi j a b c=>?_) h)
 .refine bC (λ_=>aaG (h m _ d .refl v u f)) (λt=>aaB (yX d (by lia) λy q l=>Nh C o (by lia) q (λi j a b c=>?_) λB g p D=>h B g p ((l.kb (aaw _)).trans D)))
  have r:R rk (arrOf st) (lo+m-1)<=R rk (arrOf st) lo:=Nat.le_of_not_lt λz=>t (I.mpr z)
  have all:∀k,lo<=k->k<lo+m->R rk (arrOf st) k=R rk (arrOf st) (lo+m-1):=λk x F=>by
   have M:=f lo k (aaw _) x F;have L:=f k (lo+m-1) x (by lia) (by lia);lia
  rw[l.eq all,l.eq all]
  by_cases G:j<lo+m
  .rw[all i a (by lia),all j (by lia) G];exact aaw _
  .rw[show j=lo+m by lia]
   by_cases H:i=lo+m
   .rw[H];exact aaw _
   .rw[all i a (by lia)];lia
 .have K:m=1:=by lia
  subst K
  by_cases z:i=j
  .rw[z];exact aaw _
  .rw[show i=lo+1-1 by lia,show j=lo+1 by lia];lia
theorem Kd{xs:Array Keyed}{src d:Nat}(hs:src<xs.size)(c:d<=src)(k:Nat):
 R rk (bubble xs src d) k=if k=src-d then R rk xs src else if src-d<k/\k<=src then R rk xs (k-1) else R rk xs k:=by
 have e:=getElem?_bubble hs d c k
 by_cases b:k=src-d
 .rw[ac_ b] at e ⊢;exact kY e
 .rw[ac9 b] at e ⊢
  by_cases a:src-d<k/\k<=src
  .rw[ac_ a] at e ⊢;exact kY e
  .rw[ac9 a] at e ⊢;exact kY e
theorem Ie{lo ok:Nat}{Q:Bool->SortSt->Prop}(C:wH prog w A s κ a₀ rk)(U:lo+n<=a₀.size)(B:1<=ok)(H:ok<=n)(K:SB κ a₀ pd st)(hs:Seg rk (arrOf st) lo (lo+ok))(h:∀st',SB κ a₀ pd st'->Kb lo st st'->Seg rk (arrOf st') lo (lo+n)->Q true st'):wpS (model prog w) A E s (binarySort' lo n ok) Q st:=by
 rw[J5,show max ok 1=ok by lia];refine aaB (wpS_mono (wpS_forRange (I:=λk c st'=>c=(none,())/\SB κ a₀ pd st'/\Kb lo st st'/\Seg rk (arrOf st') lo (lo+k)) (Q:=λc st'=>c=(none,())/\SB κ a₀ pd st'/\Kb lo st st'/\Seg rk (arrOf st') lo (lo+n)) ?_ ?_ ⟨Z,K,.refl,hs⟩) ?_)
 .rintro k c st' S P ⟨rfl,g,u,f⟩
  unfold bsB;have N:=g.size
  refine aaB (wpS_mono (wpS_forRange (I:=λx c d=>d=st' /\ ∃l r,c=(none,l,r)/\l<=r/\r<=k/\r-l<=k-x/\(∀i,i<l->R rk (arrOf st') (lo+i)<=R rk (arrOf st') (lo+k)) /\ ∀i,r<=i->i<k->R rk (arrOf st') (lo+k)<R rk (arrOf st') (lo+i))
   (Q:=λc d=>d=st' /\ ∃l,c=(none,l,l)/\l<=k/\(∀i,i<l->R rk (arrOf st') (lo+i)<=R rk (arrOf st') (lo+k)) /\ ∀i,l<=i->i<k->R rk (arrOf st') (lo+k)<R rk (arrOf st') (lo+i)) ?_ ?_ ⟨Z,0,k,Z,by lia,by lia,by lia,λi z=>by lia,λi z y=>by lia⟩) ?_)
  .rintro x c d _ T ⟨rfl,l,r,rfl,D,q,m,o,p⟩
   refine bC (λz=>?_) (λz=>?_)<;>dsimp only at z ⊢
   .have e:l=r:=by lia
    subst e;exact aaG ⟨Z,l,Z,q,o,p⟩
   refine aaB (wpS_ltAt C g (by lia) (by lia) λb v=>?_);refine bC (λt=>aaG ⟨Z,_,_,Z,by lia,by lia,by lia,o,λi L W=>?_⟩) (λt=>aaG ⟨Z,_,_,Z,by lia,q,by lia,λi L=>?_,p⟩)
   .exact ab0 (v.mp t) (f _ _ (by lia) (by lia) (by lia))
   .exact ac5 (f (lo+i) (lo+(l+r) / 2) (by lia) (by lia) (by lia)) (Nat.le_of_not_lt λy=>t (v.mpr y))
  .rintro c d ⟨rfl,l,r,rfl,D,q,m,o,p⟩
   have e:l=r:=by lia
   subst e;exact⟨Z,l,Z,q,o,p⟩
  .rintro c d ⟨rfl,l,rfl,O,o,p⟩
   refine aaB ?_;rw[moveDown'_eq];refine wpS_modify (aaG ⟨Z,g.set (bubble_perm _ _ _),u.trans λi V=>?_,λi j a b c=>?_⟩)
   .show (bubble (arrOf d) (lo+k) (lo+k-(lo+l)))[i]?=_
    rw[getElem?_bubble (by lia) _ (by lia),ac9 (by lia),ac9 (by lia)]
   show R rk (bubble (arrOf d) (lo+k) (lo+k-(lo+l))) i<=R rk (bubble (arrOf d) (lo+k) (lo+k-(lo+l))) j;rw[Kd (by lia) (by lia),Kd (by lia) (by lia),show lo+k-(lo+k-(lo+l))=lo+l by lia]
   have M:∀i,lo<=i->i<lo+l->R rk (arrOf d) i<=R rk (arrOf d) (lo+k):=λi G F=>by
    have:=o (i-lo) (by lia);rwa [show lo+(i-lo)=i by lia] at this
   have L2:∀i,lo+l<=i->i<lo+k->R rk (arrOf d) (lo+k)<R rk (arrOf d) i:=λi G F=>by
    have:=p (i-lo) (by lia) (by lia);rwa [show lo+(i-lo)=i by lia] at this
   repeat' split
   all_goals first
    | (exfalso;lia)
    | exact aaw _
    | exact M _ (by lia) (by lia)
    | exact ac6 (L2 _ (by lia) (by lia))
    | exact f _ _ (by lia) (by lia) (by lia)
 .rintro c st' ⟨J,g,u,f⟩
  rw[show max ok n=n by lia] at f;exact⟨J,g,u,f⟩
 .rintro c st' ⟨rfl,g,u,f⟩
  exact aaG (h st' g u f)
end
section
variable{prog:Program}{κ:SortKind}{a₀:Array Keyed}{st st':SortSt}{e lo:Nat}
theorem yJ{xs:Array Keyed}{lo:Nat}(h:lo+i<hi)(a:hi<=xs.size):R rk (xs.extract lo hi) i=R rk xs (lo+i):=by
 apply kY;rw[Array.getElem?_extract,ac_ (by lia)]
def Ke(b e:Nat)(st a:SortSt):Prop:=∀j,j<b\/e<=j->(arrOf a)[j]?=(arrOf st)[j]?
theorem Ib{g I f Y:Nat}{Q:Bool->SortSt->Prop}(C:wH prog w A s κ a₀ rk)(H:SB κ a₀ pd st)(h1:pd[i]?=some (g,na,I))(h2:pd[i+1]?=some (f,nb,Y))(a1:g+na=f)(a3:1<=na)(a2:1<=nb)(hz:f+nb<=a₀.size)(F:Seg rk (arrOf st) g f)(D:Seg rk (arrOf st) f (f+nb))(h:∀st',SB κ a₀ ((pd.setIfInBounds i (g,na+nb,I)).eraseIdxIfInBounds (i+1)) st'->Ke g (f+nb) st st'->Seg rk (arrOf st') g (f+nb)->Q true st'):wpS (model prog w) A E s (mergeAt' i) Q st:=by
 rw[Tip.Jp];refine aaB (wpS_get ?_);rw[H.pend,h1,h2];dsimp only;have sz:(arrOf st).size=a₀.size:=H.size;refine aaB (Xg ?_);have u:SB κ a₀ ((pd.setIfInBounds i (g,na+nb,I)).eraseIdxIfInBounds (i+1)) (SortSt.mk' (kindOf st) (arrOf st) ((pd.setIfInBounds i (g,na+nb,I)).eraseIdxIfInBounds (i+1)) (gallopOf st) (failedOf st)):=⟨H.perm,H.kind,H.failed,Z⟩;have t:arrOf (SortSt.mk' (kindOf st) (arrOf st) ((pd.setIfInBounds i (g,na+nb,I)).eraseIdxIfInBounds (i+1)) (gallopOf st) (failedOf st))=arrOf st:=Z;generalize (pd.setIfInBounds i (g,na+nb,I)).eraseIdxIfInBounds (i+1)=K at u t h ⊢;generalize SortSt.mk' (kindOf st) (arrOf st) K (gallopOf st) (failedOf st)=v at u t ⊢;have of:=H.of;clear h1 h2;have zb:f<(arrOf st).size:=by lia
 have P:Ke g (f+nb) st v:=λj _=>by rw[t]
 refine aaB (cB zb (aaB (ju C u.kind (of.get zb) of (by lia) (by lia) (by rw[a1];exact F) λk hc=>?_)));obtain⟨_,k1,N,O⟩:=hc;rw[←je (rk:=rk) zb] at N O;dsimp only
 have F1:∀i,g<=i->i<g+k -> ∀j,g+k<=j->j<f+nb->R rk (arrOf st) i<=R rk (arrOf st) j:=λi a b j c d=>by
  by_cases z:j<f
  .exact F i j a (by lia) z
  .have J:R rk (arrOf st) (g+(i-g))<=R rk (arrOf st) f:=N (i-g) (by lia)
   rw[show g+(i-g)=i by lia] at J;exact ac5 J (D f j (aaw _) (by lia) d)
 refine bC (λe=>aaG (h v u P λi j a b c=>?_)) (λe=>?_)
 .have e:na-k=0:=eq_of_beq e
  rw[t]
  by_cases y:i<f
  .by_cases z:j<f
   .exact F i j a b z
   .exact F1 i a (by lia) j (by lia) c
  .exact D i j (by lia) b c
 have ek:k<na:=by have:¬na-k=0:=λz=>e (beq_iff_eq.mpr z);lia
 have X:g+k+(na-k)-1<(arrOf st).size:=by lia
 refine aaB (cB X (aaB (ju C u.kind (of.get X) of (by lia) (by lia) D λl hc=>?_)));obtain⟨_,l1,L,M⟩:=hc;rw[←je (rk:=rk) X,show g+k+(na-k)-1=f-1 by lia] at L M;dsimp only
 have F2:∀i,g<=i->i<f+l -> ∀j,f+l<=j->j<f+nb->R rk (arrOf st) i<=R rk (arrOf st) j:=λi a b j c d=>by
  by_cases z:i<f
  .have J:¬R rk (arrOf st) (f+(j-f))<R rk (arrOf st) (f-1):=M (j-f) (by lia) (by lia)
   rw[show f+(j-f)=j by lia] at J;have:=F i (f-1) a (by lia) (by lia);lia
  .exact D i j (by lia) (by lia) d
 refine bC (λe=>aaG (h v u P λi j a b c=>?_)) (λe=>?_)
 .have e:l=0:=eq_of_beq e
  rw[t]
  by_cases y:i<f
  .by_cases z:j<f
   .exact F i j a b z
   .exact F2 i a (by lia) j (by lia) c
  .exact D i j (by lia) b c
 have e2:¬l=0:=λz=>e (beq_iff_eq.mpr z);have xz:((arrOf st).extract (g+k) f).size=f-(g+k):=by rw[Array.size_extract,Nat.min_eq_left (by lia)]
 have yz:((arrOf st).extract f (f+l)).size=l:=by rw[Array.size_extract,Nat.min_eq_left (by lia)];lia
 have sub:∀i j,Of a₀ ((arrOf st).extract i j):=λi j p hp=>of p (by rw[cV] at hp;exact List.mem_of_mem_drop (List.mem_of_mem_take hp))
 have bo:Bo rk ((arrOf st).extract (g+k) f) ((arrOf st).extract f (f+l)):=by
  refine⟨λi j a b c=>?_,λi j a b c=>?_,?_,?_⟩
  .rw[xz] at c
   rw[yJ (by lia) (by lia),yJ (by lia) (by lia)];exact F _ _ (by lia) (by lia) (by lia)
  .rw[yz] at c
   rw[yJ (by lia) (by lia),yJ (by lia) (by lia)];exact D _ _ (by lia) (by lia) (by lia)
  .have J:¬R rk (arrOf st) (g+k)<=R rk (arrOf st) f:=O k (aaw _) ek
   rw[yJ (by lia) (by lia),yJ (by lia) (by lia),Nat.add_zero,Nat.add_zero];lia
  .have J:R rk (arrOf st) (f+(l-1))<R rk (arrOf st) (f-1):=L (l-1) (by lia)
   rw[xz,yz,yJ (by lia) (by lia),yJ (by lia) (by lia),show g+k+(f-(g+k)-1)=f-1 by lia];lia
 have T:∀r m,sW v m->Ms rk ((arrOf st).extract (g+k) f) ((arrOf st).extract f (f+l)) r->wpS (model prog w) A E s (do
  modify λs=>setArr s (List.foldl (λa x=>a.setIfInBounds (g+k+x.2) x.1) (arrOf s) r.toList.zipIdx)
  return (failedOf (←get)).isNone) Q m:=λr m U mg=>by
  obtain⟨mg,Nv⟩:=mg;refine aaB (wpS_modify (aaB (wpS_get ?_)));have hf:failedOf (setArr m (List.foldl (λa x=>a.setIfInBounds (g+k+x.2) x.1) (arrOf m) r.toList.zipIdx))=none:=U.f.trans u.failed;rw[hf];have B:arrOf m=arrOf st:=U.a.trans t
  have sl:((arrOf st).extract (g+k) f).toList++((arrOf st).extract f (f+l)).toList=((arrOf st).toList.drop (g+k)).take (na-k+l):=by
   rw[cV,cV,List.take_add,List.drop_drop,show f+l-f=l by lia,show g+k+(na-k)=f by lia,show f-(g+k)=na-k by lia]
  have pr:r.toList.Perm (((arrOf st).toList.drop (g+k)).take (na-k+l)):=by rw[←sl];exact mg
  have rl:r.toList.length=na-k+l:=by rw[pr.length_eq,acX,List.length_drop,aaH];lia
  have lst:=Jb (g+k) r.toList 0 (arrOf st) (by lia);rw[rl,Nat.add_zero] at lst;have a0:(arrOf st).toList.length=(arrOf st).size:=aaH
  have V:∀j,(List.foldl (λa x=>a.setIfInBounds (g+k+x.2) x.1) (arrOf m) r.toList.zipIdx)[j]?=if g+k<=j/\j<f+l then r.toList[j-(g+k)]? else (arrOf st)[j]? :=λj=>by
   rw[B,←Array.getElem?_toList,lst]
   by_cases a:j<g+k
   .rw[ac9 (by lia),abU (by rw[acX];lia),List.getElem?_take_of_lt a,Array.getElem?_toList]
   .rw[abj (by rw[acX];lia),acX,Nat.min_eq_left (by lia)]
    by_cases b:j<f+l
    .rw[ac_ (by lia),abU (by lia)]
    .rw[ac9 (by lia),abj (by lia),List.getElem?_drop,Array.getElem?_toList]
     congr 1;lia
  have S:SB κ a₀ K (setArr m (List.foldl (λa x=>a.setIfInBounds (g+k+x.2) x.1) (arrOf m) r.toList.zipIdx)):=by
   refine⟨?_,U.k.trans u.kind,hf,U.p.trans u.pend⟩;refine Array.Perm.trans ?_ H.perm;rw[←B];exact Ue (n:=na-k+l) (by rw[B];lia) (by rw[B];exact pr)
  refine aaG (h _ S (λj hj=>(V j).trans (ac9 (by lia))) λi j a b c=>?_);show R rk (List.foldl _ _ _) i<=R rk (List.foldl _ _ _) j;have o:∀j,¬(g+k<=j/\j<f+l)->R rk (List.foldl (λa x=>a.setIfInBounds (g+k+x.2) x.1) (arrOf m) r.toList.zipIdx) j=R rk (arrOf st) j:=λj q=>kY ((V j).trans (ac9 q))
  have G:∀j,g+k<=j->j<f+l -> ∃x,r.toList[j-(g+k)]?=some x/\R rk (List.foldl (λa x=>a.setIfInBounds (g+k+x.2) x.1) (arrOf m) r.toList.zipIdx) j=rk x.1:=λj q1 q2=>by
   obtain⟨x,ex⟩:∃x,r.toList[j-(g+k)]?=some x:=⟨_,aaj (by lia)⟩;refine⟨x,ex,?_⟩;unfold R;rw[(V j).trans (ac_ ⟨q1,q2⟩),ex]
  have src:∀x,x∈r.toList -> ∃j,g+k<=j/\j<f+l/\R rk (arrOf st) j=rk x.1:=λx hx=>by
   obtain⟨j,j1,W,j3⟩:=jP (rk:=rk) (pr.mem_iff.mp hx);exact⟨g+k+j,by lia,by lia,j3⟩
  clear V S lst sl pr a0 hf
  by_cases i1:i<g+k
  .rw[o i (by lia)]
   by_cases j1:j<g+k
   .rw[o j (by lia)];exact F i j a b (by lia)
   .by_cases W:j<f+l
    .obtain⟨x,ex,e3⟩:=G j (by lia) W
     obtain⟨j0,q1,q2,q3⟩:=src x (aaK ex);rw[e3,←q3];exact F1 i a i1 j0 q1 (by lia)
    .rw[o j (by lia)];exact F1 i a i1 j (by lia) c
  .by_cases i2:i<f+l
   .obtain⟨x,ex,e3⟩:=G i (by lia) i2
    rw[e3]
    by_cases W:j<f+l
    .obtain⟨y,ey,e4⟩:=G j (by lia) W
     rw[e4]
     by_cases z:i=j
     .subst z;rw[ex] at ey;cases ey;exact aaw _
     .obtain⟨x1,x2⟩:=aak.mp ex
      obtain⟨y1,y2⟩:=aak.mp ey;have:=List.pairwise_iff_getElem.mp Nv _ _ x1 y1 (by lia);rwa [x2,y2] at this
    .obtain⟨i0,q1,q2,q3⟩:=src x (aaK ex)
     rw[o j (by lia),←q3];exact F2 i0 (by lia) q2 j (by lia) c
   .rw[o i (by lia),o j (by lia)]
    exact D i j (by lia) b c
 exact bC (λ_=>aaB (H_ C u.kind (sub _ _) (sub _ _) (by lia) (by lia) bo T)) (λ_=>aaB (Ia C u.kind (sub _ _) (sub _ _) (by lia) (by lia) bo T))
def Runs(rk:Value->Nat)(xs:Array Keyed):List (Nat×Nat×Nat)->Nat->Nat->Prop
 | [],a,e=>a=e
 | (s,n,_)::r,a,e=>s=a/\1<=n/\Seg rk xs a (a+n)/\Runs rk xs r (a+n) e
theorem Runs.le{xs:Array Keyed}:∀{l:List (Nat×Nat×Nat)}{a e:Nat},Runs rk xs l a e->a+l.length<=e
 | [],a,e,h=>Nat.le_of_eq h
 | (s,n,_)::r,a,e,h=>by
   have:=Runs.le h.2.2.2;have:=h.2.1;rw[ac1];lia
theorem Runs.app{xs:Array Keyed}{r:List (Nat×Nat×Nat)}:∀{l:List (Nat×Nat×Nat)}{a e:Nat},Runs rk xs (l++r) a e ↔ ∃m,Runs rk xs l a m/\Runs rk xs r m e
 | [],a,e=>⟨λh=>⟨a,Z,h⟩,λ⟨m,h1,b⟩=>(show a=m from h1)▸b⟩
 | (s,n,_)::l,a,e=>⟨λ⟨h1,b,f,d⟩=>(Runs.app.mp d).elim λm ⟨g,c⟩=>⟨m,⟨h1,b,f,g⟩,c⟩,λ⟨m,⟨h1,b,f,d⟩,c⟩=>⟨h1,b,f,Runs.app.mpr ⟨m,d,c⟩⟩⟩
theorem Seg.congr{xs ys:Array Keyed}{lo:Nat}(h:Seg rk xs lo hi)(g:∀j,lo<=j->j<hi->ys[j]?=xs[j]?):Seg rk ys lo hi:=λi j a b c=>by
 rw[kY (g i a (by lia)),kY (g j (by lia) c)];exact h i j a b c
theorem Runs.congr{xs ys:Array Keyed}:∀{l:List (Nat×Nat×Nat)}{a e:Nat},Runs rk xs l a e->(∀j,a<=j->j<e->ys[j]?=xs[j]?)->Runs rk ys l a e
 | [],a,e,h,_=>h
 | (s,n,_)::r,a,e,⟨h1,d,c,b⟩,g=>by
   have le:=Runs.le b;exact⟨h1,d,c.congr λj x y=>g j x (by lia),Runs.congr b λj x y=>g j (by lia) y⟩
theorem Runs.modify{xs:Array Keyed}{f:Nat×Nat×Nat->Nat×Nat×Nat}(k:∀x,(f x).1=x.1/\(f x).2.1=x.2.1)(l:List (Nat×Nat×Nat)):∀(i a e:Nat),Runs rk xs l a e->Runs rk xs (l.modify i f) a e:=by
 induction l with
 | nil=>intro i a e h;cases i<;>exact h
 | cons t r j=>
   intro i a e h;obtain⟨g,d,c,b⟩:=h;cases i with
   | zero=>
     rw[List.modify_zero_cons];obtain⟨q1,q2⟩:=k t;exact⟨q1.trans g,by rw[q2];exact d,by rw[q2];exact c,by rw[q2];exact b⟩
   | succ i=>
     rw[List.modify_succ_cons];exact⟨g,d,c,j i _ _ b⟩
def RJ(κ:SortKind)(a₀:Array Keyed)(rk:Value->Nat)(e:Nat)(st:SortSt):Prop:=SB κ a₀ (pendingOf st) st/\Runs rk (arrOf st) (pendingOf st).toList 0 e
theorem zU{Q:Bool->SortSt->Prop}(C:wH prog w A s κ a₀ rk)(H:RJ κ a₀ rk e st)(he:e<=a₀.size)(hi:i+1<(pendingOf st).size)(h:∀st',RJ κ a₀ rk e st'->(pendingOf st').size+1=(pendingOf st).size->(∀j,e<=j->(arrOf st')[j]?=(arrOf st)[j]?)->Q true st'):wpS (model prog w) A E s (mergeAt' i) Q st:=by
 obtain⟨u,o⟩:=H;have t:(pendingOf st).toList.length=(pendingOf st).size:=aaH;generalize pendingOf st=a at u o hi t h
 obtain⟨pre,⟨c,na,k⟩,⟨M,l,g⟩,post,d,f⟩:∃pre p q post,a.toList=pre++p::q::post/\pre.length=i:=
  ⟨a.toList.take i,a.toList[i],a.toList[i+1],a.toList.drop (i+2),by rw[←List.drop_eq_getElem_cons,←List.drop_eq_getElem_cons,List.take_append_drop],by rw[acX];lia⟩
 rw[d] at o;obtain⟨m,B,L,F,g1,K,D,g2,r⟩:=Runs.app.mp o;subst L;subst K;have G:=Runs.le r;have J:a[i]?=some (c,na,k):=by rw[←Array.getElem?_toList,d,abj (by lia),f,Nat.sub_self];rfl
 have I:a[i+1]?=some (c+na,l,g):=by rw[←Array.getElem?_toList,d,abj (by lia),f,show i+1-i=1 by lia];rfl
 refine Ib C u J I rfl F D (by lia) g1 g2 λst' b n z=>?_
 have v:((a.setIfInBounds i (c,na+l,k)).eraseIdxIfInBounds (i+1)).toList=pre++(c,na+l,k)::post:=by
  rw[Array.toList_eraseIdxIfInBounds,Array.toList_setIfInBounds,d,List.set_append_right _ _ (by lia),f,Nat.sub_self,List.eraseIdx_append_of_length_le (by lia),f,show i+1-i=1 by lia];rfl
 refine h st' ?_ ?_ λj N=>n j (.inr (by lia))
 .unfold RJ
  rw[b.pend,v];exact⟨b,Runs.app.mpr ⟨c,B.congr λj _ y=>n j (.inl y),Z,by lia,by rw[←Nat.add_assoc];exact z,by rw[←Nat.add_assoc];exact r.congr λj x _=>n j (.inr x)⟩⟩
 .rw[b.pend,←aaH,v,←t,d]
  simp only[abf,ac1];lia
theorem MP{Q:ForInStep (Option Unit×Nat)->SortSt->Prop}(a:RJ κ a₀ rk lo st)(b:1<=n)(hs:Seg rk (arrOf st) lo (lo+n))(h:∀st',RJ κ a₀ rk (lo+n) st'->Q (.yield (none,lo+n)) st'):wpS (model prog w) A E s (srP lo n) Q st:=by
 unfold srP;refine aaB (wpS_modify (aaG (h _ ⟨⟨a.1.perm,a.1.kind,a.1.failed,Z⟩,?_⟩)));show Runs rk (arrOf st) ((pendingOf st).push _).toList _ _;rw[Array.toList_push];exact Runs.app.mpr ⟨lo,a.2,Z,b,hs,Z⟩
theorem M4{Q:ForInStep (Option Unit×Nat)->SortSt->Prop}(C:wH prog w A s κ a₀ rk)(o:RJ κ a₀ rk lo st)(k:lo<=a₀.size)(m:1<=n)(hs:Seg rk (arrOf st) lo (lo+n))(h:∀st',RJ κ a₀ rk (lo+n) st'->Q (.yield (none,lo+n)) st'):wpS (model prog w) A E s (srM a₀.size lo n) Q st:=by
 unfold srM;refine aaB (wpS_get ?_);cases hb:(pendingOf st).back? with
 | none=>exact MP o m hs h
 | some t=>
   obtain⟨l,d,r⟩:=t;dsimp only;generalize power' a₀.size (2*l+d) (2*l+d+d+n) a₀.size=i;refine aaB (wpS_mono (wpS_forRange (I:=λ_ c a=>c=(none,())/\RJ κ a₀ rk lo a/\Seg rk (arrOf a) lo (lo+n)) (Q:=λc a=>c=(none,())/\RJ κ a₀ rk lo a/\Seg rk (arrOf a) lo (lo+n)) ?_ (λ_ _ z=>z) ⟨Z,o,hs⟩) ?_)
   .rintro y c a _ _ ⟨rfl,b,e⟩
    unfold srC;refine aaB (wpS_get ?_);cases hg:(if (pendingOf a).size>1 then (pendingOf a)[(pendingOf a).size-2]? else none) with
    | none=>exact aaG ⟨Z,b,e⟩
    | some t=>
      have gt:(pendingOf a).size>1:=by
       by_cases g:(pendingOf a).size>1
       .exact g
       .rw[ac9 g] at hg;cases hg
      exact bC (λ_=>aaG ⟨Z,b,e⟩) (λ_=>aaB (zU C b k (by lia) λu q _ p=>aaG ⟨Z,q,e.congr λj x _=>p j x⟩))
   .rintro c a ⟨rfl,b,e⟩
    refine aaB (wpS_modify (MP ⟨⟨b.1.perm,b.1.kind,b.1.failed,Z⟩,?_⟩ m e h));show Runs rk (arrOf a) ((pendingOf a).modify _ _).toList _ _;rw[Array.toList_modify];exact Runs.modify (f:=λx=>(x.1,x.2.1,i)) (λx=>⟨Z,Z⟩) _ _ _ _ b.2
theorem wpS_sortRuns{Q:Unit->SortSt->Prop}(C:wH prog w A s κ a₀ rk)(t:SB κ a₀ #[] st)(R:2<=a₀.size)(h:∀st',(arrOf st').Perm a₀->failedOf st'=none->Seg rk (arrOf st') 0 a₀.size->Q () st'):wpS (model prog w) A E s sortRuns' Q st:=by
 rw[Tip.sortRuns'_eq];refine aaB (wpS_get ?_);rw[t.size];generalize minRun' a₀.size a₀.size 0=M;refine aaB (wpS_mono (wpS_forRange (I:=λx c st'=>∃b,c=(none,b)/\x<=b/\b<=a₀.size/\RJ κ a₀ rk b st') (Q:=λc st'=>c=(none,a₀.size)/\RJ κ a₀ rk a₀.size st') ?_ ?_ ⟨0,Z,aaw _,Nat.zero_le _,by unfold RJ;rw[t.pend];exact⟨t,Z⟩⟩) ?_)
 .rintro x c st' _ P ⟨b,rfl,B,n,f⟩
  dsimp only;unfold srB;refine bC (λge=>?_) (λge=>?_)
  .have e:b=a₀.size:=by lia
   subst e;exact aaG ⟨Z,f⟩
  refine aaB (wpS_countRun C (by lia) (by lia) f.1 λm o i z u N g2=>?_);have K:RJ κ a₀ rk b o:=by unfold RJ;rw[i.pend];exact⟨i,f.2.congr λj _ y=>z j y⟩
  refine bC (λlt=>?_) (λ_=>M4 C K n u g2 λk J=>⟨b+m,Z,by lia,by lia,J⟩);refine aaB (wpS_lift (wpAny_rule ⟨Z,aaB (Ie C (by lia) u (by lia) i g2 λk l F g3=>?_)⟩));have r:RJ κ a₀ rk b k:=by unfold RJ;rw[l.pend];exact⟨l,(f.2.congr λj _ y=>z j y).congr λj _ y=>F j y⟩
  exact M4 C r n (by lia) g3 λa d=>⟨_,Z,by lia,by lia,d⟩
 .rintro c st' ⟨b,rfl,B,n,f⟩
  have e:b=a₀.size:=by lia
  subst e;exact⟨Z,f⟩
 .rintro c st' ⟨rfl,f⟩
  dsimp only;have le:=Runs.le f.2;rw[aaH] at le;refine aaB (wpS_mono (wpS_forRange (I:=λy c a=>c=(none,())/\RJ κ a₀ rk a₀.size a/\(pendingOf a).size<=max 1 (a₀.size-y)) (Q:=λc a=>c=(none,())/\RJ κ a₀ rk a₀.size a/\(pendingOf a).size<=1) ?_ ?_ ⟨Z,f,by lia⟩) ?_)
  .rintro y c a _ O ⟨rfl,d,p⟩
   unfold srF;refine aaB (wpS_get (bC (λv=>aaG ⟨Z,d,v⟩) (λv=>aaB (zU C d (aaw _) ?_ λS H L _=>aaG ⟨Z,H,by lia⟩))));have q:∀(c:Prop)[Decidable c],(if c then (pendingOf a).size-2-1 else (pendingOf a).size-2)+1<(pendingOf a).size:=λc _=>by split<;>lia
   exact q _
  .rintro c a ⟨rfl,d,p⟩
   exact⟨Z,d,by lia⟩
  .rintro c a ⟨rfl,d,p⟩
   refine aaG (h a d.1.perm d.1.failed ?_);have D:(pendingOf a).toList.length<=1:=by rw[aaH];exact p
   match hl:(pendingOf a).toList,D,d.2 with
   | [],_,G=>have:0=a₀.size:=G;lia
   | [(_,m,_)],_,⟨_,_,g,e⟩=>
     have e:0+m=a₀.size:=e;rw[e] at g;exact g
end
section
variable{prog:Program}{κ:SortKind}
theorem abz{vs:zzt}{xs:Array Keyed}(f:xs.Perm (pairsOf vs))(hs:Seg rk xs 0 (pairsOf vs).size):(xs.map (·.2)).toList.Perm vs/\(xs.map (·.2)).toList.Pairwise (λx y=>rk x<=rk y):=by
 have g:xs.toList.Perm (vs.zip vs):=by rw[←pairsOf_toList];exact Array.perm_iff_toList_perm.mp f
 have b:∀p,p∈xs.toList->p.1=p.2:=λp a=>(mem_zip_self (g.mem_iff.mp a)).1
 have e:(xs.map (·.2)).toList=xs.toList.map (·.1):=by
  rw[Array.toList_map];exact List.map_congr_left λp a=>(b p a).symm
 rw[e];constructor
 .have:=g.map Prod.fst
  rwa [List.map_fst_zip (aaw _)] at this
 .rw[List.pairwise_map,List.pairwise_iff_getElem]
  intro i j h c d;rw[aaH] at h c;have:=hs i j (Nat.zero_le _) (ac6 d) (by rw[←f.size_eq];exact c);rw[je h,je c] at this;simpa using this
theorem CZ{vs:zzt}{P:PySem.Fin->Shared->Prop}(m:s.heap.get? a=some (seqObj "list" vs.toArray n))(p:vs.length<=sizeLine)(z:2<=vs.length -> ∀h':Heap,(∀b o,b≠a->s.heap.get? b=some o->h'.get? b=some o)->(∀(Q:SortKind->Shared->Prop)(E:zzx),Q κ {s with heap:=h'}->wpAny (model prog w) A (keyKind' vs.toArray) Q E {s with heap:=h'})/\wH prog w A {s with heap:=h'} κ (pairsOf vs) rk)(h:∀out:List Value,out.Perm vs->out.Pairwise (λx y=>rk x<=rk y)->P (.done (.ret .none)) {s with heap:=sortedHeap s.heap a vs out.toArray}):
 wpAny (model prog w) A (Builtin.«list.sort» ⟨[.ref a],[]⟩) P E s:=by
 rw[list_sort_plain];have K:a<s.heap.objs.size:=aap m;refine aax (listItems_at m rfl ?_);refine aax (listUpdate_at m rfl ?_ (by rw[aa8];exact p) (Nat.zero_le _));obtain⟨r,g⟩:∃r,(s.heap.update a (Obj.mapSeq λ_=> #[])).get? a=some (seqObj "list" #[] r):=⟨_,get?_update_seq m (λ_=> #[])⟩;refine aax (seqEpoch_at g rfl ?_);refine aax (wpAny_newTuple ?_ (by show vs.length<=_;exact p));refine aax (wpAny_newList ?_ (Nat.zero_le _));refine wpAny_holding ?_
 have keep:∀b o,b≠a->s.heap.get? b=some o->(((s.heap.update a (Obj.mapSeq λ_=> #[])).push (seqObj "tuple" vs.toArray 0)).push (seqObj "list" #[] 0)).get? b=some o:=λb o t e=>by
  refine aan _ (aan _ ?_);rw[Heap.get?_update_ne _ _ _ _ t];exact e
 have d:(((s.heap.update a (Obj.mapSeq λ_=> #[])).push (seqObj "tuple" vs.toArray 0)).push (seqObj "list" #[] 0)).get? a=some (seqObj "list" #[] r):=aan _ (aan _ g);show wpAny (model prog w) A _ P E {s with heap:=((s.heap.update a (Obj.mapSeq λ_=> #[])).push (seqObj "tuple" vs.toArray 0)).push (seqObj "list" #[] 0)};dsimp only;have v:vs.toArray.size=vs.length:=by simp
 have k:∀c:SortSt,(arrOf c).Perm (pairsOf vs)->Seg rk (arrOf c) 0 (pairsOf vs).size ->
  P (.done (.ret .none)) {s with heap:=sortedHeap s.heap a vs ((arrOf c).map (·.2))}:=by
  intro c l q;obtain⟨F,f⟩:=abz l q;have:=h _ F f;rwa [Array.toArray_toList] at this
 by_cases f:vs.toArray.size<2
 .rw[ac_ f,ac_ f]
  refine aax (aay ?_);rw[StateT.run_pure];refine aax (aay ?_);dsimp only;refine aax (seqEpoch_at d rfl ?_);refine aax (listUpdate_at d rfl ?_ (Nat.zero_le _) (by rw[Array.size_map];show (pairsOf vs).size<=_;rw[pairsOf_size];lia));simp only[bne_self_eq_false,Bool.false_eq_true,if_false];refine aay (k (SortSt.mk' general' (vs.toArray.zip vs.toArray) #[] 7 none) (Array.Perm.refl _) ?_);intro i j _ C B;have:i=j:=by rw[pairsOf_size] at B;lia
  subst this;exact aaw _
 .rw[ac9 f,ac9 f]
  obtain⟨u,kc⟩:=z (by lia) _ keep;refine aax (u _ _ ?_)
  refine aax (wpAny_mono (wpS_sortRuns (a₀:=pairsOf vs) (rk:=rk) (st:=SortSt.mk' κ (vs.toArray.zip vs.toArray) #[] 7 none)
   (Q:=λ_ c=>(arrOf c).Perm (pairsOf vs)/\failedOf c=none/\Seg rk (arrOf c) 0 (pairsOf vs).size)
   kc ⟨Array.Perm.refl _,Z,Z,Z⟩ (by rw[pairsOf_size];lia) λc I H G=>⟨I,H,G⟩) ?_ λ_ _ e=>e)
  rintro⟨⟨⟩,c⟩ J ⟨rfl,l,D,q⟩;dsimp only;refine aax (seqEpoch_at d rfl ?_);refine aax (listUpdate_at d rfl ?_ (Nat.zero_le _) (ac5 (Nat.le_of_eq ((Array.size_map ..).trans (l.size_eq.trans (pairsOf_size _)))) (Nat.le_succ_of_le p)));rw[D];simp only[bne_self_eq_false,Bool.false_eq_true,if_false];exact aay (k c l q)
theorem KC{l:Addr}{vs:zzt}(u:s.heap.IsList l vs.toArray)(i:vs.length<=sizeLine)(v:2<=vs.length -> ∀h':Heap,(∀b o,s.heap.get? b=some o->h'.get? b=some o)->(∀(Q:SortKind->Shared->Prop)(E:zzx),Q κ {s with heap:=h'}->wpAny (model prog w) A.in1.in1 (keyKind' vs.toArray) Q E {s with heap:=h'})/\wH prog w A.in1.in1 {s with heap:=h'} κ (pairsOf vs) rk)(h:∀(h':Heap)(D:Addr)(c:Nat)(out:zzt),(∀b o,s.heap.get? b=some o->h'.get? b=some o)->s.heap.objs.size<=D->h'.get? D=some (seqObj "list" out.toArray c)->out.Perm vs->out.Pairwise (λx y=>rk x<=rk y)->Q (.ref D) {s with heap:=h'}):
 wpAny (model prog w) A (call (.builtin "sorted") [.ref l]) Q E s:=by
 refine Calls.call_function_entry kind_sorted plain_sorted entry_sorted (args_sorted1 _) ?_;unfold Builtin.«sorted»;refine aax (m:=checkCount "sorted" 1 1 _) (aay ?_);refine aax (collect_list u ?_ i);refine aax (wpAny_newList ?_ i)
 have d:((s.heap.push (seqObj "list" #[] 0)).update s.heap.objs.size (Obj.mapSeq (· ++ vs.toArray))).objs.size=s.heap.objs.size+1:=by
  rw[Heap.size_update,size_push']
 have a:(((s.heap.push (seqObj "list" #[] 0)).update s.heap.objs.size (Obj.mapSeq (· ++ vs.toArray))).push (seqObj "list" vs.toArray 0)).get? (s.heap.objs.size+1)=some (seqObj "list" vs.toArray 0):=by
  rw[←d];exact aao _ rfl
 have keep:∀b o,s.heap.get? b=some o->(((s.heap.push (seqObj "list" #[] 0)).update s.heap.objs.size (Obj.mapSeq (· ++ vs.toArray))).push (seqObj "list" vs.toArray 0)).get? b=some o:=λb o q=>by
  have f:b<s.heap.objs.size:=aap q;rw[Heap.get?_push_ne _ _ _ (by rw[d];exact abX (Nat.lt_succ_of_lt f)),Heap.get?_update_ne _ _ _ _ (abX f),Heap.get?_push_ne _ _ _ (abX f)];exact q
 show wpAny _ _ _ _ _ {s with heap:=((s.heap.push (seqObj "list" #[] 0)).update s.heap.objs.size (Obj.mapSeq (· ++ vs.toArray))).push (seqObj "list" vs.toArray 0)};rw[d];generalize ((s.heap.push (seqObj "list" #[] 0)).update s.heap.objs.size (Obj.mapSeq (· ++ vs.toArray))).push (seqObj "list" vs.toArray 0)=g at keep a ⊢;have nD:∀b o,s.heap.get? b=some o->b≠s.heap.objs.size+1:=λb o e=>abX (Nat.lt_succ_of_lt (aap e));refine aax (wpAny_holding (wpAny_call_entry slot_list_sort ⟨_,a,Z⟩ entry_list_sort (CZ (s:={s with heap:=g}) a i (λz h' t=>v z h' λb o e=>t b o (nD b o e) (keep b o e)) λout r p=>⟨_,Z,?_⟩) (args_list_sort _)));refine aay ⟨_,Z,?_⟩;obtain⟨n,k⟩:∃n,(g.update (s.heap.objs.size+1) (Obj.mapSeq λ_=> #[])).get? (s.heap.objs.size+1)=some (seqObj "list" #[] n):=⟨_,get?_update_seq a (λ_=> #[])⟩;have j:(((g.update (s.heap.objs.size+1) (Obj.mapSeq λ_=> #[])).push (seqObj "tuple" vs.toArray 0)).push (seqObj "list" #[] 0)).get? (s.heap.objs.size+1)=some (seqObj "list" #[] n):=aan _ (aan _ k);refine h (sortedHeap g (s.heap.objs.size+1) vs out.toArray) _ _ out (λb o e=>?_) (Nat.le_succ _) (by unfold sortedHeap;exact get?_update_seq j (λ_=>out.toArray)) r p;unfold sortedHeap;rw[Heap.get?_update_ne _ _ _ _ (nD b o e)];refine aan _ (aan _ ?_);rw[Heap.get?_update_ne _ _ _ _ (nD b o e)];exact keep b o e
end
theorem Eo{α:Type}{p q:α->Bool}{u:α}:∀{l:List α},u∈l->q u=true->p u=false->(∀x,p x=true->q x=true)->l.countP p<l.countP q
 | [],a,_,_,_=>by simp at a
 | x::l,a,b,c,hi=>by
   have mono:l.countP p<=l.countP q:=List.countP_mono_left λx _=>hi x;rw[List.countP_cons,List.countP_cons];rcases List.mem_cons.mp a with rfl|a
   .rw[b,c];simp;lia
   .have:=Eo a b c hi
    cases e:p x with
    | true=>rw[hi x e];simp;lia
    | false=>simp;lia
def qK{α:Type}(L:α->α->Bool)(vs:List α)(v:α):Nat:=vs.countP λu=>L u v
structure Swo{α:Type}(L:α->α->Bool):Prop where
 irr:∀a,L a a=false
 tr:∀a b c,L a b=true->L b c=true->L a c=true
 ntr:∀a b c,L a b=false->L b c=false->L a c=false
theorem N_{α:Type}{L:α->α->Bool}(S:Swo L){vs:List α}{u v:α}(b:u∈vs):decide (qK L vs u<qK L vs v)=L u v:=by
 cases e:L u v with
 | true=>exact aaO (Eo b e (S.irr u) λx a=>S.tr x u v a e)
 | false=>
   refine aaQ λz=>?_
   have:qK L vs v<=qK L vs u:=List.countP_mono_left λx _ a=>by
    cases e':L x u with
    | true=>rfl
    | false=>rw[S.ntr x u v e' e] at a;cases a
   lia
theorem Yg{α:Type}{L:α->α->Bool}(S:Swo L){vs:List α}{u v:α}(a:v∈vs)(h:qK L vs u<=qK L vs v):L v u=false:=by
 have:=N_ S (u:=v) (v:=u) a;rw[←this];exact aaQ (by lia)
def jU:List Int->List Int->Bool
 | _,[]=>false
 | [],_::_=>true
 | a::as,b::bs=>if a=b then jU as bs else decide (a<b)
theorem Jt(a:List Int):jU a []=false:=by cases a<;>rfl
theorem Ju:∀a,jU a a=false
 | []=>rfl
 | a::as=>by unfold jU;rw[ac_ rfl];exact Ju as
theorem Ov:∀a b c,jU a b=true->jU b c=true->jU a c=true
 | a,[],_,h,_=>by rw[Jt] at h;cases h
 | [],_::_,[],_,h=>by cases h
 | [],_::_,_::_,_,_=>rfl
 | _::_,_::_,[],_,h=>by cases h
 | a::as,b::bs,c::cs,h1,d=>by
   unfold jU at h1 d ⊢
   by_cases f:a=b
   .rw[ac_ f] at h1
    by_cases e:b=c
    .rw[ac_ e] at d
     rw[ac_ (f.trans e)];exact Ov as bs cs h1 d
    .rw[ac9 e] at d
     rw[ac9 (f▸e),f];exact d
   .rw[ac9 f] at h1
    have h1:=aaT h1
    by_cases e:b=c
    .rw[←e,ac9 f];exact aaO h1
    .rw[ac9 e] at d
     have d:=aaT d;rw[ac9 (by lia)];exact aaO (by lia)
theorem Js:∀a b c,jU a b=false->jU b c=false->jU a c=false
 | a,_,[],_,_=>Jt a
 | [],[],_::_,_,h=>by cases h
 | [],_::_,_::_,h,_=>by cases h
 | _::_,[],_::_,_,h=>by cases h
 | a::as,b::bs,c::cs,h1,d=>by
   unfold jU at h1 d ⊢
   by_cases f:a=b
   .rw[ac_ f] at h1
    by_cases e:b=c
    .rw[ac_ e] at d
     rw[ac_ (f.trans e)];exact Js as bs cs h1 d
    .rw[ac9 e] at d
     rw[ac9 (f▸e),f];exact d
   .rw[ac9 f] at h1
    have h1:=of_decide_eq_false h1
    by_cases e:b=c
    .rw[←e,ac9 f];exact aaQ h1
    .rw[ac9 e] at d
     have d:=of_decide_eq_false d;rw[ac9 (by lia)];exact aaQ (by lia)
theorem Jr:∀a b,jU a b=false->jU b a=false->a=b
 | [],[],_,_=>rfl
 | [],_::_,h,_=>by cases h
 | _::_,[],_,h=>by cases h
 | a::as,b::bs,h1,c=>by
   unfold jU at h1 c
   by_cases e:a=b
   .rw[ac_ e] at h1
    rw[ac_ e.symm] at c;rw[e,Jr as bs h1 c]
   .rw[ac9 e] at h1
    rw[ac9 (Ne.symm e)] at c;have h1:=of_decide_eq_false h1;have c:=of_decide_eq_false c;lia
theorem Nu{α:Type}(key:α->List Int):Swo λa b=>jU (key a) (key b):=⟨λa=>Ju _,λa b c=>Ov _ _ _,λa b c=>Js _ _ _⟩
end Tim
namespace L2
open PySem PySem.Spec PyProof.Rows PySem.W
def keyOf(h:Heap):Value->List Int
 | .int n _=>[n]
 | .ref a=>match h.get? a with
   | some o=>match o.data with
     | .seq xs _=>xs.toList.map numOf
     | _=>[]
   | none=>[]
 | _=>[]
theorem Ou{prog:Program}{w:World}{A:Around}{s:Shared}{Q:Bool->Shared->Prop}:∀(xs ys:zzt)(ns ms:List Int)(i:Nat),IntsAre xs ns->IntsAre ys ms -> ∀(a:Bool),(ns.length=ms.length->a=false)->ns.length=ms.length->Q (Tim.jU ns ms) s->KatLex prog w A true a Q (xs.zip ys) i s
 | _,_,[],[],i,.nil,.nil,a,d,_,h=>by
   show Q a s;rw[d rfl];exact h
 | _,_,_::_,[],_,_,_,_,_,b,_=>by cases b
 | _,_,[],_::_,_,_,_,_,_,b,_=>by cases b
 | _,_,n::ns,m::ms,i,.cons _ t g,.cons _ u f,a,d,b,h=>by
   rw[List.zip_cons_cons];refine kat_cons (wpAny_eqBool_int ?_);have c:ns.length=ms.length:=by simpa using b
   by_cases e:n=m
   .subst e
    rw[show (n==n)=true by simp];refine kat_yes (Ou _ _ ns ms (i+1) g f a (λz=>d (by simpa using z)) c ?_);unfold Tim.jU at h;rwa [ac_ rfl] at h
   .rw[show (n==m)=false by simpa using e]
    unfold Tim.jU at h;rw[ac9 e] at h;refine kat_no ?_;cases (true&&i==0) with
    | true=>exact oneLt_int h
    | false=>exact kat_one _ _ (lt_int (show W.BoolBack Q (.bool (decide (n<m))) s from h))
theorem sJ{h:Heap}(c:IsTup h a its.toArray)(hi:IntsAre its ns):keyOf h (.ref a)=ns:=by
 obtain⟨o,e,_,n,d⟩:=c
 show (match h.get? a with
  | some o=>match o.data with
    | .seq b _=>b.toList.map numOf
    | _=>[]
  | none=>[])=ns
 rw[e];dsimp only;rw[d];dsimp only;exact hi.nums
def PJ(h:Heap)(k:Nat)(vs:zzt):Prop:=∀v∈vs,∃a its ns,v=.ref a/\IsTup h a its.toArray/\IntsAre its ns/\ns.length=k
theorem SM{prog:Program}{vs:zzt}(T:PJ h0 k vs)(l:∀b o,h0.get? b=some o->s.heap.get? b=some o):
 Tim.wH prog w A s (tuples' true) (pairsOf vs) (Tim.qK (λa b=>Tim.jU (keyOf h0 a) (keyOf h0 b)) vs):=by
 refine⟨λp n q m E Q h=>?_⟩;rw[pairsOf_toList] at n m;obtain⟨_,mp⟩:=mem_zip_self n;obtain⟨_,r⟩:=mem_zip_self m;rw[Tim.N_ (Tim.Nu (keyOf h0)) mp] at h;obtain⟨a,d,j,t,i,f,I⟩:=T _ mp;obtain⟨b,c,ms,eq,g,e,H⟩:=T _ r;rw[t,eq] at h ⊢;rw[sJ i f,sJ g e] at h;obtain⟨D,v,ca,G,B⟩:=i;obtain⟨C,u,L,F,db⟩:=g;have K:d.length=j.length:=f.length;have J:c.length=ms.length:=e.length;refine kat_lt (l _ _ v) B (l _ _ u) db ?_;have y:d.toArray.toList=d:=by simp
 have x:c.toArray.toList=c:=by simp
 rw[y,x];exact Ou d c j ms 0 f e _ (λz=>aaQ (by rw[aa8,aa8];lia)) (by lia) h
theorem yq{q p:Heap}{k:Nat}(A:1<=k)(l:∀b o,q.get? b=some o->p.get? b=some o):∀{vs:zzt},PJ q k vs -> ∃g,KatTups p vs g/\g.length=vs.length /\ ∀f∈g,∃n t,f=Value.int n t
 | [],_=>⟨[],trivial,Z,λ_ z=>ac' z (by simp)⟩
 | v::vs,T=>by
   obtain⟨g,t1,s,t3⟩:=yq A l (vs:=vs) λu y=>T u (acq _ y);obtain⟨a,i,w,rfl,⟨o,e,c,n,d⟩,x,h⟩:=T v (List.mem_cons_self ..)
   match i,w,x,h,d with
   | _,_,.nil,h,d=>simp at h;lia
   | _,_,.cons m t r,h,d=>
     refine⟨_::g,KatTups.cons (l _ _ e) c d rfl t1,by simp[s],λf j=>?_⟩;rcases List.mem_cons.mp j with rfl|j
     .exact⟨_,_,Z⟩
     .exact t3 f j
theorem Qg{prog:Program}{vs:zzt}{Q:SortKind->Shared->Prop}(d:1<=k)(T:PJ h0 k vs)(a:2<=vs.length)(c:∀b o,h0.get? b=some o->s.heap.get? b=some o)(h:Q (tuples' true) s):wpAny (model prog w) A (keyKind' vs.toArray) Q E s:=by
 obtain⟨f,t1,e,t3⟩:=yq d c T;refine kat_kind (T:= .type "int") t1 (by lia) (λv a=>?_) rfl h;obtain⟨n,t,rfl⟩:=t3 v a;exact .now
theorem P0{out:zzt}(r:Vals ys us)(p:out.Perm us):∃zs,Vals zs out/\zs.Perm ys:=by
 induction p generalizing ys with
 | nil=>cases r;exact⟨[],.nil,.refl _⟩
 | cons x p m=>
   cases r with
   | cons c d=>
     obtain⟨zs,b,a⟩:=m d;exact⟨_::zs,.cons c b,.cons _ a⟩
 | swap x y l=>
   cases r with
   | cons c d=>
     cases d with
     | cons j k=>exact⟨_,.cons j (.cons c k),.swap _ _ _⟩
 | trans p q f e=>
   obtain⟨zs,b,a⟩:=e r;obtain⟨g,i,h⟩:=f b;exact⟨g,i,h.trans a⟩
theorem Ed:∀{ns:List Int}{vs:zzt},Vals (ns.map V.int) vs->IntsAre vs ns
 | [],_,.nil=> .nil
 | n::ns,_,.cons ⟨t,e⟩ r=>by subst e;exact .cons n t (Ed r)
theorem Dt{R:Value->Value->Prop}{S:V->V->Prop}(a:∀x y u v,RelV x u->RelV y v->R u v->S x y):∀{zs:List V}{out:zzt},Vals zs out->out.Pairwise R->zs.Pairwise S
 | _,_,.nil,_=> .nil
 | _,_,.cons c rt,p=>by
   rw[List.pairwise_cons] at p;refine .cons (λy d=>?_) (Dt a rt p.2);obtain⟨i,hi,e⟩:=ac2 d;obtain⟨v,f,b⟩:=Vals.get rt (i:=i) (x:=y) (by rw[aaj hi,e]);exact a _ _ _ _ c b (p.1 v (aaK f))
def aje(K:zzy)(H:Hp)(k:Nat)(f:V->List Int)(x:V):Prop:=∃a,x=.ref a/\cD K H a ((f x).map V.int)/\(f x).length=k
inductive Gi(K:zzy)(xs:List V)(H:Hp)(Q:VK):Prop|m:∀(p:Addr)(ys:List V)(k:Nat)(f:V->List Int),xs=[.ref p]->bG K H p ys->1<=k->(∀y∈ys,aje K H k f y)->(∀l zs,H l=none->zs.Perm ys->zs.Pairwise (λx y=>Tim.jU (f y) (f x)=false)->Q (.ref l) (upd H l (.lst zs)))->Gi K xs H Q
theorem Mh:jt X (.builtin "sorted") (Gi X.K):=by
 intro Y s σ H xs us Q I r h;obtain⟨p,l,k,f,rfl,hq,hk,ht,q⟩:=h;obtain⟨u,rfl,J⟩:=vals1 r;cases J;obtain⟨g,K,pl,hz⟩:=I.list hq;have a0:g.length=l.length:=by rw[←K.length]
 have item:∀x v,x∈l->RelV x v -> ∃a d,v=.ref a/\IsTup s.heap a d.toArray/\IntsAre d (f x)/\(f x).length=k:=by
  intro x v M G;obtain⟨a,rfl,sq,hl⟩:=ht x M;cases G;obtain⟨d,rj,tj,_⟩:=I.tuple sq;exact⟨a,d,Z,tj,Ed rj,hl⟩
 have T:PJ s.heap k g:=λv N=>by
  obtain⟨i,R,e⟩:=ac2 N;have A:i<l.length:=by lia
  obtain⟨v',t,F⟩:=K.get (i:=i) (x:=l[i]) (by rw[aaj A]);rw[aaj R,e] at t;cases t;obtain⟨a,d,e1,V,U,e4⟩:=item _ _ (List.getElem_mem A) F;exact⟨a,d,_,e1,V,U,e4⟩
 refine Tim.KC (κ:=tuples' true) (rk:=Tim.qK (λa b=>Tim.jU (keyOf s.heap a) (keyOf s.heap b)) g) pl.isList (by lia)
  (λB h' w=>⟨λQ E hQ=>Qg hk T B w hQ,SM T w⟩) λh' D c o w hD hd P hs=>?_
 obtain⟨zs,W,C⟩:=P0 K P;have L:zs.length<=sizeLine:=by rw[C.length_eq];lia
 refine⟨.ref D,_,I.laid (t':=s.toks) w hD (show dM X.prog X.w _ h' _ (.lst zs) from ⟨L,o,c,W,hd⟩),Z,q D zs (I.hok.fresh hD) C ?_⟩
 have O:o.Pairwise (λu v=>u∈g/\v∈g/\Tim.jU (keyOf s.heap v) (keyOf s.heap u)=false):=by
  refine List.Pairwise.imp_of_mem (fun {u v} hu N m=>?_) hs;have mu:=P.mem_iff.mp hu;have mv:=P.mem_iff.mp N;exact⟨mu,mv,Tim.Yg (Tim.Nu (keyOf s.heap)) mv m⟩
 have n:∀z∈zs,z∈l:=λz hz=>C.mem_iff.mp hz
 have zp:zs.Pairwise (λx y=>x∈zs/\y∈zs):=by
  rw[List.pairwise_iff_getElem];intro i j R hj _;exact⟨List.getElem_mem R,List.getElem_mem hj⟩
 have:=Dt (S:=λx y=>x∈l->y∈l->Tim.jU (f y) (f x)=false) (λx y u v J F m M A=>by
  obtain⟨a,d,rfl,V,U,e4⟩:=item x u M J;obtain⟨b,a1,rfl,g2,g3,g4⟩:=item y v A F;have:=m.2.2;rwa [sJ V U,sJ g2 g3] at this) W O
 exact List.Pairwise.imp₂ (fun {x y} (h1:x∈l->y∈l->Tim.jU (f y) (f x)=false) (B:x∈zs/\y∈zs)=>h1 (n _ B.1) (n _ B.2)) this zp
theorem yF(a:X.K=K):jt X (.builtin "sorted") (Gi K):=by subst a;exact Mh
end L2
namespace Prf
open PySem L2
def top(i:Nat):Stmt:=PySem.Challenge.pw_fewnotes_k55_twins_of_replays.main.body.getD i (.Pass ⟨0,0,0,0⟩)
abbrev qF:Stmt:=inClass (top 7) 0
abbrev tV:Stmt:=top 9
abbrev tW:Stmt:=top 10
abbrev xH:Stmt:=top 13
abbrev qH:Stmt:=inClass (top 17) 0
abbrev lK:Stmt:=inClass (top 17) 1
abbrev lH:Stmt:=inClass (top 17) 2
abbrev lJ:Stmt:=inClass (top 17) 3
abbrev xK:Stmt:=inClass (top 17) 4
abbrev o_:Stmt:=inClass (top 17) 5
abbrev qG:Stmt:=inClass (top 17) 6
abbrev iJ:Stmt:=inClass (top 17) 7
abbrev bZ:Stmt:=inClass (top 18) 0
abbrev o9:Stmt:=inClass (top 18) 1
abbrev jw:Stmt:=inClass (top 18) 2
abbrev m_:Stmt:=inClass (top 18) 3
abbrev qC:Stmt:=inClass (top 18) 6
abbrev lD:Stmt:=inClass (top 18) 7
abbrev o8:Stmt:=inClass (top 18) 8
abbrev j6:Stmt:=inClass (top 18) 9
abbrev j5:Stmt:=inClass (top 18) 10
abbrev lE:Stmt:=inClass (top 18) 11
abbrev j4:Stmt:=top 19
abbrev xG:Stmt:=top 21
abbrev m8:Stmt:=top 23
abbrev o7:Stmt:=top 24
abbrev TF:Stmt:=top 25
abbrev qz:Stmt:=top 26
abbrev nF:Stmt:=inClass (top 28) 0
abbrev nu:Stmt:=inClass (top 28) 1
abbrev jx:Stmt:=inClass (top 28) 2
abbrev jy:Stmt:=inClass (top 28) 3
abbrev nG:Stmt:=inClass (top 28) 4
abbrev j7:Stmt:=inClass (top 28) 5
abbrev nH:Stmt:=inClass (top 28) 6
abbrev lG:Stmt:=inClass (top 28) 7
abbrev ni:Stmt:=inClass (top 28) 8
abbrev nA:Stmt:=inClass (top 28) 9
abbrev jz:Stmt:=inClass (top 28) 10
abbrev Gd:Stmt:=top 30
abbrev Gf:Stmt:=top 31
abbrev vh:Stmt:=top 32
abbrev Ay:Stmt:=top 33
abbrev Ax:Stmt:=top 34
abbrev KY:Stmt:=top 35
abbrev tY:Stmt:=top 36
abbrev tZ:Stmt:=top 37
abbrev KQ:Stmt:=top 38
abbrev Ge:Stmt:=top 39
abbrev A_:Stmt:=top 40
abbrev uc:Stmt:=top 41
abbrev Az:Stmt:=top 42
abbrev t_:Stmt:=top 43
abbrev Ga:Stmt:=top 44
abbrev tX:Stmt:=top 45
abbrev Gb:Stmt:=top 46
abbrev xJ:Stmt:=top 47
abbrev Tz:Stmt:=top 48
structure nR(mg:zzv):Prop where
 ZJ:mg "ValueError" = none
 Pr:mg "all" = none
 Cq:mg "bool" = none
 J_:mg "enumerate" = none
 J9:mg "int" = none
 bQ:mg "isinstance" = none
 dJ:mg "len" = none
 iD:mg "list" = none
 ae6:mg "max" = none
 aaD:mg "min" = none
 dI:mg "range" = none
 Ml:mg "reversed" = none
 J8:mg "sorted" = none
 ae5:mg "str" = none
 aaC:mg "sum" = none
 zF:mg "tuple" = none
 ae4:mg "zip" = none
theorem FT:aY ["self","note"] ["self","note"] (aP qF):={}
theorem Iw:aY ["value"] ["value"] (aP tV):={}
theorem Iz:aY ["value","count"] ["value","count"] (aP tW):={}
theorem KJ:aY ["row"] ["row"] (aP xH):={}
theorem FZ:aY ["self","rows"] ["self","rows"] (aP qH):={}
theorem pL:aY ["self","other"] ["self"] (aP lK):={}
theorem pK:aY ["self","row"] ["self"] (aP lH):={}
theorem jZ:aY ["self","done"] ["self"] (aP lJ):={}
theorem KN:aY ["self","row"] ["self","row"] (aP xK):={}
theorem m7:aY ["self","row","left","right"] ["self","row"] (aP o_):={}
theorem FW:aY ["self","box","number"] ["self","box","number"] (aP qG):={}
theorem gY:aY ["self","part","left","right"] ["self","part"] (aP iJ):={}
theorem m6:aY ["self","program","cells","one"] ["self","program","cells"] (aP bZ):={}
theorem m5:aY ["self","hand","one","touch"] ["self","hand"] (aP o9):={}
theorem fB:aY ["self","one","row","cell","read","written"] ["self","one"] (aP jw):={}
theorem Ao:aY ["self"] ["self"] (aP m_):={}
theorem FQ:aY ["self","hand"] ["self","hand"] (aP qC):={}
theorem yM:aY ["self"] ["self"] (aP lD):={}
theorem tK:aY ["self","other"] ["self"] (aP o8):={}
theorem xg:aY ["self","hand"] ["self","hand"] (aP j6):={}
theorem nY:aY ["self","hands"] ["self"] (aP j5):={}
theorem yN:aY ["self","other"] ["self","other"] (aP lE):={}
theorem wZ:aY ["cells","count"] ["cells","count"] (aP j4):={}
theorem KD:aY ["value"] ["value"] (aP xG):={}
theorem Am:aY ["record"] ["record"] (aP m8):={}
theorem CQ:aY ["counts","note"] ["counts","note"] (aP o7):={}
theorem abb:aY ["done","touch"] ["done","touch"] (aP TF):={}
theorem oX:aY ["record","firsts","note"] ["record"] (aP qz):={}
theorem Aq:aY ["self","works","record"] ["self","works","record"] (aP nF):={}
theorem lC:aY ["self","hand","holding","touch"] ["self","hand"] (aP nu):={}
theorem vd:aY ["self","hand"] ["self","hand"] (aP jx):={}
theorem mJ:aY ["self","hand","touch"] ["self","hand"] (aP jy):={}
theorem Ar:aY ["self"] ["self"] (aP nG):={}
theorem xq:aY ["self"] ["self"] (aP j7):={}
theorem Av:aY ["self"] ["self"] (aP nH):={}
theorem yO:aY ["self"] ["self"] (aP lG):={}
theorem qu:aY ["self","other"] ["self"] (aP ni):={}
theorem iY:aY ["self","touches","hand","count"] ["self"] (aP nA):={}
theorem vf:aY ["self"] ["self"] (aP jz):={}
theorem qx:aY ["script","stir","cell","great"] ["script"] (aP Gd):={}
theorem vg:aY ["reel","many","rest","told","stir"] ["reel","many"] (aP Gf):={}
theorem DG:aY ["found","due"] ["found","due"] (aP vh):={}
theorem Dz:aY ["reel","boxes","kind"] ["reel","boxes"] (aP Ay):={}
theorem xu:aY ["reel","boxes","kind","one"] ["reel","boxes"] (aP Ax):={}
theorem oZ:aY ["reel","sizes","at","kind","ahead","box","cell","to"] ["reel","sizes","at"] (aP KY):={}
theorem gP:aY ["reel","great","many","boxes","hands","k","size"] ["reel"] (aP tY):={}
theorem IK:aY ["reel","many"] ["reel","many"] (aP tZ):={}
theorem oY:aY ["reel","works","hands","turns","web","touches","turn","waiting","k","told"] ["reel","works","hands","turns"] (aP KQ):={}
theorem Tw:aY ["one","other"] ["one","other"] (aP Ge):={}
theorem k_:aY ["web","ahead","j","row","i","x"] ["web"] (aP A_):={}
theorem IV:aY ["ahead","i","j"] ["ahead","i","j"] (aP uc):={}
theorem kZ:aY ["web","few","ahead","hands","found","j","i"] ["web","few"] (aP Az):={}
theorem qy:aY ["some","gone","hand","found","note"] ["some","gone","hand"] (aP t_):={}
theorem Aw:aY ["one","touches","some","gone","waiting","free"] ["one","touches","some","gone"] (aP Ga):={}
theorem mK:aY ["one","hand","caught","e"] ["one","hand"] (aP tX):={}
theorem qw:aY ["one","touches","some","gone","hand","found","caught","told","due"] ["one","touches","some","gone","hand"] (aP Gb):={}
theorem tU:aY ["works","gone","counts","k"] ["works","gone"] (aP xJ):={}
theorem gF:aY ["script","reel","program","numbers","hands","turns","web","touches","some","handed","replays","beside","gone","step","deed","at","to"] ["script"] (aP Tz):={}
structure fY(K:zzy)(C:Addr):Prop where
 cls:Cls K C
 qP:eX K C "rows"
 vD:eX K C "at"
 jC:eX K C "in_boxes"
 oA:eX K C "sayings"
 jO:eX K C "state"
structure dz(K:zzy)(C:Addr):Prop where
 cls:Cls K C
 sI:eX K C "program"
 jB:eX K C "numbers"
 mV:eX K C "hands"
 vB:eX K C "turns"
structure cW(K:zzy)(C:Addr):Prop where
 cls:Cls K C
 lQ:eX K C "record"
 Ji:eX K C "firsts"
 vC:eX K C "stage"
 dR:eX K C "progress"
section
variable{mg:zzv}
theorem zE{α β:Type}(p:α->Bool)(g:α->β):∀l:List α,(List.range l.length).filterMap (λi=>(l[i]?).bind λx=>if p x then some (g x) else none)=(l.filter p).map g
 | []=>rfl
 | x::l=>by
   have a:=zE p g l;rw[ac1,List.range_succ_eq_map,List.filterMap_cons,List.filterMap_map,ac0];cases q:p x
   .simp[q];exact a
   .simp[q];exact a
theorem vU(x y:Int):PyData.eqv (.int x) (.int y)=decide (x=y):=by
 simp only[PyData.eqv];rw[Bool.eq_iff_iff];simp
theorem dh(h:H a=some (.lst (ns.map V.int))):Dat H (.ref a) (.list (ns.map PyData.int)):=jc h (aR.ints ns)
theorem shaped_ints(ns:List Int):SeqAt.shaped (.list (ns.map PyData.int))=true:=yt PyData.int 0 (by decide) (λ_ _=>rfl) (λ_ _=>by show 0<=0;decide)
abbrev Nt:=Int×Int×Int×Int
def nD(x:Nt):PyData:= .tuple [.int x.1,.int x.2.1,.int x.2.2.1,.int x.2.2.2]
def nV(x:Nt):List V:=[.int x.1,.int x.2.1,.int x.2.2.1,.int x.2.2.2]
theorem qW(x:Nt):CK (nD x)=true:=Z
theorem aaA{d:PyData}(h:Dat H v d):aR H [v] [d]:=by
 simp only[aR,and_true];exact h
theorem G7{t:Addr}{x:Nt}(h:H t=some (.tup (nV x))):Dat H (.ref t) (nD x):=by
 simp only[nD,Dat];exact⟨t,_,Z,h,by simp only[nV,aR,Dat,and_self]⟩
theorem Ca{x:Nt}(h:Dat H v (nD x)):∃t,v=.ref t/\H t=some (.tup (nV x)):=by
 simp only[nD,Dat] at h;obtain⟨t,f,e,q,d⟩:=h
 match f,d with
 | [a,b,c,z],d=>
   simp only[aR,Dat,and_true] at d;obtain⟨rfl,rfl,rfl,rfl⟩:=d;exact⟨t,e,q⟩
 | [],d=>simp only[aR] at d
 | [_],d=>simp only[aR,and_false] at d
 | [_,_],d=>simp only[aR,and_false] at d
 | [_,_,_],d=>simp only[aR,and_false] at d
 | _::_::_::_::_::_,d=>simp only[aR,and_false] at d
def kI(H:Hp)(a:Addr)(ns:List Nt):Prop:=∃vs,H a=some (.lst vs)/\aR H vs (ns.map nD)
theorem kI.same{ns:List Nt}(h:kI H a ns)(k:Same H H'):kI H' a ns:=by
 obtain⟨b,e,d⟩:=h;exact⟨b,k _ _ e,aR.keep k.tups _ (cH _ qW ns) d⟩
theorem zy{ns:List Nt}(d:aR H vs (ns.map nD))(e:vs[i]?=some v):∃x t,ns[i]?=some x/\v=.ref t/\H t=some (.tup (nV x)):=by
 obtain⟨q,eq,b⟩:=d.get e;rw[aam] at eq;cases ex:ns[i]? with
 | none=>rw[ex] at eq;cases eq
 | some x=>
   rw[ex] at eq;cases eq;obtain⟨t,rfl,a⟩:=Ca b;exact⟨x,t,Z,Z,a⟩
def gI(cs:List Int)(h:Int):Int:=(cs[h.toNat]?).getD 0
theorem gR{h:Int}(a:0<=h)(b:h<cs.length):wG (cs.map V.int) h=some (.int (gI cs h)):=by
 obtain⟨m,rfl⟩:=ac3 a;have:m<cs.length:=by lia
 refine bL ?_;simp[gI,this]
theorem xW{c:Int}(h:cs[i]?=some c):gI cs i=c:=by simp[gI,h]
theorem zB{i:Int}(b:0<=i)(a:i<n):QV n i=some i.toNat:=by unfold QV;rw[ac_ b,ac_ a]
theorem acn{h k v:Int}(b:0<=h)(a:h<cs.length)(k0:0<=k):gI (cs.set h.toNat v) k=if k=h then v else gI cs k:=by
 unfold gI;rw[List.getElem?_set]
 by_cases e:k=h
 .subst e
  have:k.toNat<cs.length:=by lia
  simp[this]
 .have:¬h.toNat=k.toNat:=by lia
  simp[e,this]
def WR(cs:List Int)(x:Nt):Prop:=(0<=x.1/\x.1<cs.length)/\(0<=x.2.1/\x.2.1<gI cs x.1)/\(0<=x.2.2.1/\x.2.2.1<cs.length)/\(0<=x.2.2.2/\x.2.2.2<gI cs x.2.2.1)/\x.1≠x.2.2.1
def ZX(cs:List Int):Prop:=cs.length<=8 /\ ∀c∈cs,0<=c/\c<=300
theorem ZX.gI{cs:List Int}(h:ZX cs)(i:Int):0<=gI cs i/\gI cs i<=300:=by
 unfold Prf.gI;cases e:cs[i.toNat]? with
 | none=>simp
 | some c=>exact h.2 c (aaK e)
theorem Wc(x y:Nt):PyData.eqv (nD x) (nD y)=decide (x=y):=by
 obtain⟨a,b,c,d⟩:=x;obtain⟨l,k,j,i⟩:=y;simp only[nD,PyData.eqv,PyData.eqvAll,Bool.and_true]
 by_cases h:a=l
 .subst h
  by_cases g:b=k
  .subst g
   by_cases f:c=j
   .subst f
    by_cases e:d=i
    .subst e;simp
    .simp[e]
   .simp[f]
  .simp[g]
 .simp[h]
theorem oW(ns:List Nt):SeqAt.shaped (.list (ns.map nD))=true:=
 yt nD 1 (by decide) (λ_ _=>rfl) (λ_ _=>by show (max 0 (max 0 (max 0 (max 0 0))))+1<=1;decide)
def RecAt(H:Hp)(t c a:Addr)(cs:List Int)(ns:List Nt):Prop:=H t=some (.tup [.ref c,.ref a])/\H c=some (.lst (cs.map V.int))/\kI H a ns
theorem RecAt.same{H H':Hp}{t c a:Addr}{cs:List Int}{ns:List Nt}(h:RecAt H t c a cs ns)(k:Same H H'):RecAt H' t c a cs ns:=⟨k _ _ h.1,k _ _ h.2.1,h.2.2.same k⟩
def Fb(cs:List Int)(ns:List Nt):Prop:=ZX cs/\ns.length<=100000 /\ ∀x∈ns,WR cs x
def M127:Int:=170141183460469231731687303715884105727
theorem ZG:Builtin.Int.intBits M127<=127:=PySem.intBits_le_iff.mpr (by decide)
theorem Pn{t:Int}(b:0<=t)(a:t<M127):Builtin.Int.intBits t<=127:=PySem.intBits_le_of_natAbs (y:=M127) (by unfold M127 at a ⊢;lia) ZG
theorem Vq{t:Int}(b:0<=t)(a:t<M127):IntMulOk t t:=IntMulOk.of_le (Pn b a) (Pn b a) (by lia)
def eZ(H:Hp)(r:Addr):Prop:=∃(g c:Addr) (gs cs:List Int) (p t:Int),H r=some (.lst [.ref g,.ref c,.int p,.int t])/\H g=some (.lst (gs.map V.int))/\H c=some (.lst (cs.map V.int))/\0<cs.length/\cs.length<=100/\gs.length<=100/\(∀x∈gs,0<=x)/\0<=p/\0<=t/\t<M127/\g≠r/\c≠r
theorem eZ.keep{r:Addr}(h:eZ H r)(k:Same H H'):eZ H' r:=by
 obtain⟨g,c,a,f,p,t,e,d,b,q⟩:=h;exact⟨g,c,a,f,p,t,k _ _ e,k _ _ d,k _ _ b,q⟩
theorem eZ.ne{r:Addr}(h:eZ H r)(a:H p=none):p≠r:=by
 obtain⟨g,c,d,e,_,t,b,_⟩:=h;exact(aA b a).symm
theorem eZ.at{r:Addr}(h:eZ H r):∃o,H r=some o:=by
 obtain⟨g,c,b,d,p,t,a,_⟩:=h;exact⟨_,a⟩
theorem eZ.tups{H H':Hp}{r:Addr}(h:eZ H r)(k:Kp r H H'):∀a xs,H a=some (HO.tup xs)->H' a=some (HO.tup xs):=by
 obtain⟨g,c,d,e,p,t,b,_⟩:=h;exact k.tups b
def Off(H:Hp)(r x:Addr):Prop:=∀(g c:Addr)(u v:V),H r=some (.lst [.ref g,.ref c,u,v])->x≠g/\x≠c
def KR(r:Addr)(H H':Hp):Prop:=Kp r H H' /\ ∀x o,H x=some o->x≠r->Off H r x->Off H' r x
theorem KR.trans{r:Addr}{H H1 H2:Hp}(a:KR r H H1)(b:KR r H1 H2):KR r H H2:=⟨a.1.trans b.1,λx o e n f=>b.2 x o (a.1 _ _ e n) n (a.2 x o e n f)⟩
theorem KR.tups{r:Addr}{H H':Hp}(k:KR r H H')(R:eZ H r):∀a xs,H a=some (HO.tup xs)->H' a=some (HO.tup xs):=R.tups k.1
theorem KR.same{r:Addr}(R:eZ H r)(k:Same H H'):KR r H H':=⟨.of_same k,λx o e n f g c u v a=>by
 obtain⟨h,j,d,i,p,t,b,_⟩:=R;rw[k _ _ b] at a;cases a;exact f _ _ _ _ b⟩
theorem eZ.off{r x:Addr}(R:eZ H r)(a:H x=none):Off H r x:=λg c u v e=>by
 obtain⟨i,k,h,j,p,t,f,d,b,_⟩:=R;rw[f] at e;cases e;exact⟨λz=>(by rw[z,d] at a;cases a),λz=>(by rw[z,b] at a;cases a)⟩
theorem Off.same{r x:Addr}(R:eZ H r)(k:Same H H')(f:Off H r x):Off H' r x:=λg c u v a=>by
 obtain⟨e,i,d,h,p,t,b,_⟩:=R;rw[k _ _ b] at a;cases a;exact f _ _ _ _ b
theorem eZ.set{r x:Addr}{o:HO}(R:eZ H r)(n:x≠r)(f:Off H r x):eZ (upd H x o) r:=by
 obtain⟨g,c,e,j,p,t,a,i,h,q⟩:=R;obtain⟨d,b⟩:=f _ _ _ _ a;exact⟨g,c,e,j,p,t,by rw[aF n.symm];exact a,by rw[aF d.symm];exact i,by rw[aF b.symm];exact h,q⟩
theorem Off.set{r x y:Addr}{o:HO}(n:x≠r)(f:Off H r y):Off (upd H x o) r y:=λg c u v e=>f g c u v (by rw[aF n.symm] at e;exact e)
theorem Kp.new{r:Addr}(k:Kp r H H')(a:H' p=none)(c:∃o,H' r=some o):H p=none:=by
 cases e:H p with
 | none=>rfl
 | some o=>
   by_cases n:p=r
   .subst n
    obtain⟨d,b⟩:=c;rw[a] at b;cases b
   .rw[k _ _ e n] at a
    cases a
theorem G9(h:ns.length<=63):lY (ns.map V.int) none (some 63)=ns.map V.int:=by
 unfold lY;rw[HT.Bd,show (some (63:Int))=some ((63:Nat):Int) from rfl,HT.Gg,aae,List.drop_zero,Nat.min_eq_right h,Nat.sub_zero,List.take_of_length_le (by simp)]
inductive Fx(K:zzy)(vs:List V)(H:Hp)(Q:VK)(dX:XK):Prop|m:∀(a:Addr)(ns:List Int),vs=[.ref a]->bG K H a (ns.map V.int)->ns.length<=63->(∀(r:Addr)(H':Hp),H r=none->eZ H' r->Same H H'->(∀x o,H x=some o->Off H' r x)->Q (.ref r) H')->Fx K vs H Q dX
theorem Va(F:fZ K "_law_reel" "_law_reel" Gd f fd)(Bt:nR mg):bR P w K mg base iB 1 f fd ["script"] (Fx K):=by
 refine F.ok qx (λvs H Q E h=>?_) (λa5 A O s H vs Q E hr h=>?_)
 .obtain⟨a,d,rfl,_⟩:=h
  rfl
 .obtain⟨a,d,rfl,W,g,k⟩:=h
  refine⟨_,(aB (bH (i:=1) qx.nd rfl (Or.inl rfl) (bY qN aG aG))
   (aB (iQ PassesOwn.never rfl (dg (K:=K) rfl (jR (nW (K:=K) rfl) (pv 0) mQ (mO aG))) (bK (i:=2) qx.nd rfl (Or.inl rfl))
   (aJ (bH (i:=1) qx.nd rfl (Or.inl rfl) (bY pA (bY iR (bY iR (bY Oh (pv 1) (pv 1)) (bY pA (pv 2) aG)) aG) (bY uf (bY Gp (bY qN aG aG) (bY qN aG aG)) aG)))))
   (aB (mL (i:=3) rfl qx.nd rfl (Or.inl rfl) (N:=["cell"]) (own:=["cell"]) (caps:=[]) (bB.of (by kernel_rfl)) (dg (K:=K) rfl (jR (nW (K:=K) rfl) (pv 0) mQ (mO aG))) (λ_ _ _ _=>(bK (i:=0) (show List.Nodup (["cell"]:List Str) by decide +kernel) rfl (Or.inl rfl))) (λ_ _ _ _=>(rZ (bD aai (pv 0) (bY qN aG aG) (bA _)))) (λ_ _ _ _=>(bY uf (pv 0) (bY qN aG aG))))
   (aJ (bw (cJ (aj (pv 3) (aj (bY UW (dZ rfl (N:=["cell"]) (own:=["cell"]) (caps:=[]) (bB.of (by kernel_rfl)) (dg (K:=K) rfl (jR (nW (K:=K) rfl) (pv 0) mQ (mO aG))) (λ_ _ _ _=>(bK (i:=0) (show List.Nodup (["cell"]:List Str) by decide +kernel) rfl (Or.inl rfl))) (λ_ _ _ _=>dF) (λ_ _ _ _=>(bY pA (pv 0) aG))) (cJ (aj aG au))) (aj aG (aj (pv 1) au)))))))))),?_⟩
  refine⟨_,_,Z,Z,(by show Ko 3 60;exact⟨by decide,by decide,by decide⟩),?_⟩;refine⟨_,Z,_,Z,_,_,Z,W,λp hp=>?_⟩;rw[G9 g];have M:=aH (o:=HO.lst (d.map V.int)) hp;have a4:Ko 2 64:=⟨by decide,by decide,by decide⟩;have a3:Ko 2 63:=⟨by decide,by decide,by decide⟩;have m:Ko 10 18:=⟨by decide,by decide,by decide⟩
  refine⟨p,Z,⟨_,bG.of ak⟩,vP (K:=K) (a:=p) (xs:=d.map V.int) (λi n H2=>∃(t:Int) (v:Option V),n=[some (.ref a),some (.int t),v,none]/\H2=upd H p (.lst (d.map V.int))/\0<=t/\t<M127)
   ⟨_,none,Z,Z,by decide,by decide⟩ (λi n H2 _ ⟨_,_,_,e,_⟩=>by rw[e];exact bG.of ak) ?_ ?_⟩
  .rintro i y n H2 b ⟨t,v,rfl,rfl,t0,t1⟩
   obtain⟨z,rfl⟩:∃z,y=V.int z:=by
    rw[aam] at b;cases e:d[i]? with
    | none=>rw[e] at b;cases b
    | some z=>rw[e] at b;exact⟨z,(abe b).symm⟩
   refine⟨_,Z,_,Z,_,_,Z,Z,Vq t0 t1,_,Z,_,_,Z,Z,(by show (0:Int)<1000000000000000003;decide),_,_,Z,Z,_,_,Z,Z,?_⟩;refine⟨_,_,Z,Z,a4,_,_,Z,Z,a3,_,_,Z,Z,.inr ⟨by decide,by decide⟩,_,_,Z,Z,_,_,Z,Z,(by show (0:Int)<2 ^ Int.toNat 64*2 ^ Int.toNat 63-1;decide),?_⟩;refine⟨_,_,Z,Z,?_,?_⟩
   .exact Int.emod_nonneg _ (by decide)
   .exact Int.emod_lt_of_pos _ (by decide)
  .rintro n H2 ⟨t,v,rfl,rfl,t0,t1⟩
   have U:=M.seq W;refine⟨_,Z,_,Z,_,_,Z,U,λp2 a0=>?_⟩;rw[G9 g];have s2:=aH (o:=HO.lst (d.map V.int)) a0;refine⟨p2,Z,⟨_,bG.of ak⟩,λD hD=>?_⟩;refine jV (K:=K) (λi=>(d[i]?).bind λz=>if decide (z≥10 ^ (18:Int).toNat) then some (V.int (z-10 ^ (18:Int).toNat)) else none) hD (bG.of ak) (by rw[aae];lia) (λi v C G F b s3 T q=>?_) (λC s3 e3=>?_)
   .rw[aam] at b
    cases e:d[i]? with
    | none=>rw[e] at b;cases b
    | some z=>
      rw[e] at b;cases b;simp only[e,ac8] at T q;refine⟨_,Z,_,_,Z,Z,m,_,_,Z,Z,_,Z,?_⟩;refine cO (λw=>?_) (λw=>?_)
      .exact⟨_,Z,_,_,Z,Z,m,_,_,Z,Z,q _ C (Same.refl _) (by rw[ac_ w])⟩
      .exact T C (Same.refl _) (by rw[ac9 w])
   rw[aae,zE (λz:Int=>decide (z≥10 ^ (18:Int).toNat)) (λz=>V.int (z-10 ^ (18:Int).toNat))] at e3;have a2:C D=some (.lst (((d.filter λz=>decide (z≥10 ^ (18:Int).toNat)).map λz=>z-10 ^ (18:Int).toNat).map V.int)):=by rw[e3,acV];rfl
   have B:=(M.trans s2).trans s3;refine⟨_,Z,_,Z,_,Z,_,_,Z,B.seq W,λp3 Y=>?_⟩;rw[G9 g];have s4:=aH (o:=HO.lst (d.map V.int)) Y;refine⟨p3,Z,⟨_,bG.of ak⟩,λD2 a1=>?_⟩;refine jV (K:=K) (λi=>(d[i]?).map λz=>V.int (z % 1000003)) a1 (bG.of ak) (by rw[aae];lia) (λi v H5 G F b L T q=>?_) (λH5 L e5=>?_)
   .rw[aam] at b
    cases e:d[i]? with
    | none=>rw[e] at b;cases b
    | some z=>
      rw[e] at b;cases b;exact⟨_,Z,_,_,Z,Z,(by show (0:Int)<1000003;decide),q _ H5 (Same.refl _) (by rw[e];rfl)⟩
   rw[aae,O6] at e5;refine⟨(by show 1<=sizeLine;decide),λp4 X=>?_⟩;have J:=aH (o:=HO.lst [V.int 41]) X;refine⟨D2,p4,_,_,Z,Z,J _ _ e5,ak,by rw[sizeLine_eq,aae];simp only[acT];lia,λc hc=>?_⟩;have s7:=aH (o:=HO.lst (d.map (λz=>V.int (z % 1000003))++[V.int 41])) hc;have l:=(s4.trans L).trans (J.trans s7);refine⟨_,Z,(by show 4<=sizeLine;decide),λr j=>?_⟩;have I:=aH (o:=HO.lst [V.ref D,V.ref c,V.int 0,V.int t]) j;have eD:=l _ _ a2;have S:D≠r:=aA eD j;have R:c≠r:=aA ak j;have fl:(d.filter λz=>decide (z≥10 ^ (18:Int).toNat)).length<=d.length:=List.length_filter_le _ _
   refine k r _ ((B.trans l).free j) ⟨D,c,_,d.map (· % 1000003)++[41],0,t,ak,I _ _ eD,?_,by simp,by simp;lia,by rw[aae];lia,λx hx=>?_,by decide,t0,t1,S,R⟩ ((B.trans l).trans I) (λx o e g' c' u v er=>by
    rw[ak] at er;cases er;exact⟨aA ((M.trans s2) _ _ e) hD,aA ((B.trans ((s4.trans L).trans J)) _ _ e) hc⟩)
   .refine I _ _ ?_
    rw[ak,ab1,acV];rfl
   .obtain⟨z,hz,rfl⟩:=acL.mp hx
    have:=aaT (acY.mp hz).2;lia
inductive kO(K:zzy)(vs:List V)(H:Hp)(Q:VK)(dX:XK):Prop|m:∀(r:Addr)(m:Int),vs=[.ref r,.int m]->eZ H r->0<m->m<1329227995784915872903807060280344576->(∀(z:Int)(H':Hp),0<=z->z<m->eZ H' r->KR r H H'->Q (.int z) H')->kO K vs H Q dX
theorem Vg(F:fZ K "_law_draw" "_law_draw" Gf f fd)(Bt:nR mg):bR P w K mg base iB 1 f fd ["reel","many"] (kO K):=by
 refine F.ok vg (λvs H Q E h=>?_) (λa4 A U s H vs Q E hr h=>?_)
 .obtain⟨r,m,rfl,_⟩:=h
  rfl
 .obtain⟨r,m,rfl,⟨g,c,T,G,p,t,S,hG,hC,c0,c1,g1,I,p0,t0,t1,n,d⟩,m0,m1,k⟩:=h
  have qX:=hr.units
  refine⟨_,(aB (cj (bD (Gn (K:=K) rfl qX) (aO (aL (K:=K) rfl) (pv 0) aG (λ_ _=>rfl)) (cJ au) (bA _)) (aB (bH (i:=2) vg.nd rfl (Or.inl rfl) (aO (aL (K:=K) rfl) (aO (aL (K:=K) rfl) (pv 0) aG (λ_ _=>rfl)) aG (λ_ _=>rfl)))
   (aB (pq (bY UW (bY K7 (cJ (aj (bY Jd (pv 2) (pv 1)) au)) (dB yc (by rfl) Bt.J9 Ci (aj (cZ aai (pv 2) (pv 1) (bA _)) au))) (jR (nW (K:=K) rfl) (aO (aL (K:=K) rfl) (pv 0) aG (λ_ _=>rfl)) (mO aG) mQ)) (qM (pv 0) aG set_list))
   (aJ (bw (bY pA (pv 2) (pv 1)))))) bJ)
   (aB (pq (bY iR (aO (aL (K:=K) rfl) (pv 0) aG (λ_ _=>rfl)) aG) (qM (pv 0) aG set_list))
   (aB (bH (i:=3) vg.nd rfl (Or.inl rfl) (aO (aL (K:=K) rfl) (aO (aL (K:=K) rfl) (pv 0) aG (λ_ _=>rfl)) (bY pA (aO (aL (K:=K) rfl) (pv 0) aG (λ_ _=>rfl)) (aV (aW (K:=K) rfl) (by rfl) Bt.dJ cG (aj (aO (aL (K:=K) rfl) (pv 0) aG (λ_ _=>rfl)) au))) (λ_ _=>rfl)))
   (aB (bH (i:=4) vg.nd rfl (Or.inl rfl) (bY iR (bY iR (bY Oh (aO (aL (K:=K) rfl) (pv 0) aG (λ_ _=>rfl)) (aO (aL (K:=K) rfl) (pv 0) aG (λ_ _=>rfl))) (bY Gp (bY iR (pv 3) aG) aG)) (bY Gp (aO (aL (K:=K) rfl) (pv 0) aG (λ_ _=>rfl)) aG)))
   (aB (pq (bY pA (pv 4) (bY uf (bY Gp (bY qN aG aG) (bY qN aG aG)) aG)) (qM (pv 0) aG set_list))
   (aJ (bw (bY pA (bY Jd (aO (aL (K:=K) rfl) (pv 0) aG (λ_ _=>rfl)) (bY qN aG aG)) (pv 1))))))))),?_⟩
  refine⟨_,Z,_,_,_,_,Z,Z,bG.of S,Z,(by show 0<=sizeLine;decide),λq hq=>?_⟩;have L:=aH (o:=HO.lst []) hq;have b:=L _ _ S;have j:=L _ _ hG;have N:=L _ _ hC;refine⟨_,_,dh j,dh (ns:=[]) ak,shaped_ints _,shaped_ints _,_,Z,?_⟩;rw[ac_ rfl,lX PyData.int vU];refine cO (λw=>?_) (λ_=>?_)
  .have w:T≠[]:=by simpa using w
   obtain⟨x,a,rfl⟩:∃x a,T=x::a:=by
    cases T with
    | nil=>exact ac' rfl w
    | cons x a=>exact⟨x,a,Z⟩
   have x0:=I x (by simp);refine⟨_,Z,_,_,_,_,Z,Z,bG.of b,Z,_,_,_,_,Z,Z,bG.of j,(by show wG (V.int x::a.map V.int) 0=some (V.int x);simp[wG,QV]),?_⟩;refine⟨_,Z,_,Z,_,_,Z,Z,⟨m0,m1⟩,(by show 1<=sizeLine;decide),λq2 Y=>?_⟩;have s2:=aH (o:=HO.lst [V.int (x / m)]) Y;refine⟨_,Z,_,Z,_,_,Z,Z,Or.inr ⟨_,Z,q2,_,_,Z,Z,ak,?_,?_,?_,λq3 X=>?_⟩⟩
   .split<;>decide
   .split<;>decide
   .rw[sizeLine_eq];split<;>simp
   have s3:=aH (o:=HO.lst (List.replicate (if decide (x≥m)=true then (1:Int) else 0).toNat [V.int (x / m)]).flatten) X;have O:=s2.trans s3;refine⟨_,Z,_,_,_,_,Z,Z,bG.of (O _ _ b),Z,_,Z,g,_,Z,bG.of (O _ _ j),λq4 W=>?_⟩;rw[show lY ((x::a).map V.int) (some 1) none=a.map V.int from JT _ 1];have R:=aH (o:=HO.lst (a.map V.int)) W;have fl:(List.replicate (if decide (x≥m)=true then (1:Int) else 0).toNat [V.int (x / m)]).flatten.length<=1:=by split<;>simp
   have xl:a.length<=100:=by have:(x::a).length<=100:=g1;simp at this;lia
   refine⟨q3,q4,_,_,Z,Z,R _ _ ak,ak,by rw[sizeLine_eq,aae];exact ac5 (Nat.add_le_add fl xl) (by decide),λq5 C=>?_⟩;have s5:=aH (o:=HO.lst ((List.replicate (if decide (x≥m)=true then (1:Int) else 0).toNat [V.int (x / m)]).flatten++a.map V.int)) C;have l:=(O.trans R).trans s5;have a0:=l _ _ b;refine⟨_,Z,_,_,_,_,Z,Z,a0,Z,?_⟩;have z:Kp r (upd (upd (upd (upd (upd H q (HO.lst [])) q2 (HO.lst [V.int (x / m)])) q3 (HO.lst (List.replicate (if decide (x≥m)=true then (1:Int) else 0).toNat [V.int (x / m)]).flatten)) q4 (HO.lst (a.map V.int))) q5 (HO.lst ((List.replicate (if decide (x≥m)=true then (1:Int) else 0).toNat [V.int (x / m)]).flatten++a.map V.int))) _:=Kp.set (o:= .lst [.ref q5,.ref c,.int p,.int t]);have M:q5≠r:=(aA ((O.trans R) _ _ b) C).symm
   have eq5:(List.replicate (if decide (x≥m)=true then (1:Int) else 0).toNat [V.int (x / m)]).flatten++a.map V.int=((if decide (x≥m)=true then [x / m] else [])++a).map V.int:=by
    split<;>simp
   refine⟨_,Z,_,Z,_,_,Z,Z,m0,?_⟩
   refine k _ _ (Int.emod_nonneg _ (by lia)) (Int.emod_lt_of_pos _ m0) ⟨q5,c,(if decide (x≥m)=true then [x / m] else [])++a,G,p,t,ak,?_,z _ _ (l _ _ N) d,c0,c1,?_,λy B=>?_,p0,t0,t1,M,d⟩ ⟨(Kp.of_same (L.trans l)).trans z,λy o ey ny f g' c' u v e=>by
    rw[ak] at e;cases e;exact⟨aA ((L.trans (O.trans R)) _ _ ey) C,(f _ _ _ _ S).2⟩⟩
   .refine z _ _ ?_ M
    rw[ak,eq5]
   .rw[abf]
    have:(if decide (x≥m)=true then [x / m] else []).length<=1:=by split<;>simp
    have:(x::a).length<=100:=g1;simp only[ac1] at this;lia
   .rcases acG.mp B with B|B
    .split at B
     .have:y=x / m:=by simpa using B
      rw[this];exact Int.ediv_nonneg x0 (by lia)
     .cases B
    .exact I y (by simp[B])
  .have a3:Ko 2 64:=⟨by decide,by decide,by decide⟩
   have a2:Ko 2 63:=⟨by decide,by decide,by decide⟩;have a1:Ko 2 40:=⟨by decide,by decide,by decide⟩;refine⟨_,Z,_,_,_,_,Z,Z,bG.of b,Z,_,_,Z,Z,_,Z,_,_,_,_,Z,Z,b,Z,?_⟩;have z:Kp r (upd H q (HO.lst [])) (upd (upd H q (HO.lst [])) r (.lst [.ref g,.ref c,.int (p+1),.int t])):=Kp.set;have J:(upd (upd H q (HO.lst [])) r (.lst [.ref g,.ref c,.int (p+1),.int t])) r=some (.lst [.ref g,.ref c,.int (p+1),.int t]):=ak;have D:=z _ _ N d;have i0:0<=(p+1) % (G.length:Int):=Int.emod_nonneg _ (by lia);have i1:(p+1) % (G.length:Int)<G.length:=Int.emod_lt_of_pos _ (by lia);refine⟨_,Z,_,_,_,_,Z,Z,bG.of J,Z,_,Z,_,_,_,_,Z,Z,bG.of J,Z,_,Z,_,_,_,_,Z,Z,bG.of J,Z,c,_,Z,.inl (bG.of D),_,_,Z,Z,by rw[aae];lia,_,_,_,_,Z,Z,bG.of D,by rw[aae];exact gR i0 i1,?_⟩;generalize gI G ((p+1) % (G.length:Int))=told;refine⟨_,Z,_,_,_,_,Z,Z,bG.of J,Z,_,Z,_,_,_,_,Z,Z,bG.of J,Z,_,_,Z,Z,Vq t0 t1,_,Z,_,_,Z,Z,_,_,Z,Z,.inr ⟨by decide,by decide⟩,_,_,Z,Z,_,Z,_,_,_,_,Z,Z,bG.of J,Z,_,_,Z,Z,.inr ⟨by decide,by decide⟩,_,_,Z,Z,?_⟩;refine⟨_,Z,_,_,Z,Z,a3,_,_,Z,Z,a2,_,_,Z,Z,.inr ⟨by decide,by decide⟩,_,_,Z,Z,_,_,Z,Z,(by show (0:Int)<2 ^ Int.toNat 64*2 ^ Int.toNat 63-1;decide),_,Z,_,_,_,_,Z,Z,J,Z,?_⟩;refine⟨_,Z,_,_,_,_,Z,Z,bG.of ak,Z,_,_,Z,Z,a1,_,_,Z,Z,⟨by decide,by decide⟩,_,Z,_,_,Z,Z,m0,?_⟩
   refine k _ _ (Int.emod_nonneg _ (by lia)) (Int.emod_lt_of_pos _ m0) ⟨g,c,T,G,p+1,_,ak,?_,?_,c0,c1,g1,I,by lia,Int.emod_nonneg _ (by decide),Int.emod_lt_of_pos _ (by decide),n,d⟩ ⟨((Kp.of_same L).trans z).trans Kp.set,λy o ey ny f g' c' u v e=>by
    rw[ak] at e;cases e;exact f _ _ _ _ S⟩
   .rw[aF n];exact z _ _ j n
   .rw[aF d];exact D
def wC(i:Int)(n:Nat):Prop:=0<=i/\i<(n:Int)
instance (i:Int) (n:Nat):Decidable (wC i n):=inferInstanceAs (Decidable (_/\_))
inductive XH(K:zzy)(vs:List V)(H:Hp)(Q:VK)(dX:XK):Prop|m:∀i:Int,vs=[.int i]->Q (.bl true) H->XH K vs H Q dX
theorem Je(F:fZ K "is_whole" "is_whole" tV f fd)(a:nR mg):bR P w K mg base iB 1 f fd ["value"] (XH K):=by
 refine F.ok Iw (λd H Q E h=>?_) (λe A b s H d Q E g h=>?_)
 .obtain⟨i,rfl,_⟩:=h
  rfl
 .obtain⟨i,rfl,k⟩:=h
  refine⟨_,(aJ (bw (j9 (aV (cR (K:=K) (cv:= .ty "int") (c:= .type "int") rfl rfl) (by rfl) a.bQ bM (aj (pv 0) (aj (fM (v:= .ty "int") (by rfl) a.J9 Ci rfl) au))) (jA (Uv (aV (cR (K:=K) (cv:= .ty "bool") (c:= .type "bool") rfl rfl) (by rfl) a.bQ bM (aj (pv 0) (aj (fM (v:= .ty "bool") (by rfl) a.Cq v9 rfl) au)))))))),?_⟩;refine⟨_,Z,_,_,true,Z,.int i,yC K,true,Z,?_⟩;refine fH ?_;exact⟨_,Z,_,_,false,Z,.int i,pG K,false,Z,k⟩
inductive rT(K:zzy)(vs:List V)(H:Hp)(Q:VK)(dX:XK):Prop|m:∀(i:Int)(n:Nat),vs=[.int i,.int n]->Q (.bl (decide (wC i n))) H->rT K vs H Q dX
theorem Jf(F:fZ K "is_below" "is_below" tW f fd)(d:FnAt P w K mg base 1 "is_whole" ["value"] (XH K)):bR P w K mg base iB 2 f fd ["value","count"] (rT K):=by
 refine F.ok Iz (λc H Q E h=>?_) (λj A b s H c Q E g h=>?_)
 .obtain⟨i,n,rfl,_⟩:=h
  rfl
 .obtain⟨i,n,rfl,k⟩:=h
  refine⟨_,(aJ (bw (j9 (bN d (g.mono (by decide)) (by rfl) (aj (pv 0) au)) (jA (UG aag ou aG (pv 0) (pv 1)))))),?_⟩;refine⟨_,Z,i,Z,true,Z,?_⟩;refine fH ?_;refine⟨_,Z,_,_,Z,Z,_,Z,?_⟩;refine cO (λa=>?_) (λa=>?_)
  .refine⟨_,Z,_,_,Z,Z,?_⟩
   have e:decide (wC i n)=decide (i<(n:Int)):=by
    have a:=aaT a;rw[Bool.eq_iff_iff,decide_eq_true_iff,decide_eq_true_iff];exact⟨λz=>z.2,λz=>⟨a,z⟩⟩
   show Q (.bl (decide (i<(n:Int)))) H;rw[←e];exact k
  .have e:decide (wC i n)=false:=aaQ λz=>a (aaO z.1)
   rw[←e];exact k
def hF(r:Addr)(n:Int)(b sy:Addr)(st:Str):List (Str×V):=[("rows",.ref r),("at",.int n),("in_boxes",.ref b),("sayings",.ref sy),("state",.str st)]
structure pZ where
 (h hx r b sy:Addr)
structure pJ(CH:Addr)(H:Hp)(A:pZ)(s:bO):Prop where
 h:H A.h=some (.ins CH A.hx (hF A.r s.pos A.b A.sy s.st))
 b:H A.b=some (.lst (s.bs.map V.int))
 y:H A.sy=some (.lst (s.sy.map V.int))
 QJ:A.b≠A.sy
 bl:s.bs.length=8
def KH(A:pZ)(H H':Hp):Prop:=∀x o,H x=some o->x≠A.h->x≠A.b->x≠A.sy->H' x=some o
theorem KH.of_same{A:pZ}(k:Same H H'):KH A H H':=λx o e _ _ _=>k _ _ e
theorem KH.trans{A:pZ}{H1 H2:Hp}(a:KH A H H1)(b:KH A H1 H2):KH A H H2:=λx o e f d c=>b x o (a x o e f d c) f d c
theorem KH.tQ{A:pZ}{o:HO}:KH A H (upd H A.h o):=λx u e n _ _=>by rw[aF n];exact e
theorem KH.Tt{A:pZ}{o:HO}:KH A H (upd H A.b o):=λx u e _ n _=>by rw[aF n];exact e
theorem KH.aa'{A:pZ}{o:HO}:KH A H (upd H A.sy o):=λx u e _ _ n=>by rw[aF n];exact e
theorem pJ.YX{A:pZ}{s:bO}(c:pJ CH H A s):A.h≠A.b:=dD c.h c.b (by intro z;cases z)
theorem pJ.nhy{A:pZ}{s:bO}(c:pJ CH H A s):A.h≠A.sy:=dD c.h c.y (by intro z;cases z)
theorem pJ.same{A:pZ}{s:bO}(c:pJ CH H A s)(k:Same H H'):pJ CH H' A s:=⟨k _ _ c.h,k _ _ c.b,k _ _ c.y,c.QJ,c.bl⟩
theorem pJ.tup{a:Addr}{H H':Hp}{A:pZ}{s:bO}(c:pJ a H A s)(k:KH A H H'):∀x xs,H x=some (.tup xs)->H' x=some (.tup xs):=λx xs e=>k _ _ e (dD e c.h (by intro z;cases z)) (dD e c.b (by intro z;cases z)) (dD e c.y (by intro z;cases z))
theorem pJ.tQ{A:pZ}{s:bO}(c:pJ CH H A s)(n:Nat)(st:Str):pJ CH (upd H A.h (.ins CH A.hx (hF A.r n A.b A.sy st))) A {s with pos:=n,st:=st}:=
 ⟨ak,by rw[aF c.YX.symm];exact c.b,by rw[aF c.nhy.symm];exact c.y,c.QJ,c.bl⟩
theorem pJ.Tt{A:pZ}{s:bO}(c:pJ CH H A s)(bs:List Int)(l:bs.length=8):pJ CH (upd H A.b (.lst (bs.map V.int))) A {s with bs:=bs}:=
 ⟨by rw[aF c.YX];exact c.h,ak,by rw[aF c.QJ.symm];exact c.y,c.QJ,l⟩
theorem pJ.aa'{A:pZ}{s:bO}(c:pJ CH H A s)(ys:List Int):pJ CH (upd H A.sy (.lst (ys.map V.int))) A {s with sy:=ys}:=
 ⟨by rw[aF c.nhy];exact c.h,by rw[aF c.QJ];exact c.b,ak,c.QJ,c.bl⟩
theorem Bh(r b sy:Addr)(n m:Int)(st:Str):cI "at" (.int m) (hF r n b sy st)=hF r m b sy st:=by rfl
theorem Gj(r b sy:Addr)(n:Int)(st a:Str):cI "state" (.str a) (hF r n b sy st)=hF r n b sy a:=by rfl
theorem G3(n:Nat):(List.range n).filterMap (λ_=>some (V.int 0))=(List.replicate n 0).map V.int:=by
 induction n with
 | zero=>rfl
 | succ n a=>rw[d8,a,List.replicate_succ',ab1];rfl
theorem zA{o:Addr}(h:Kp o H H')(ne:p≠o)(n:H' p=none):H p=none:=by
 cases e:H p with
 | none=>rfl
 | some u=>rw[h _ _ e ne] at n;cases n
theorem ae3:∀b:Fin 8,Builtin.Str.occurrences (Str.ofString "abcdefgh") (v7 b.val) 0 (Str.ofString "abcdefgh").length 1=[b.val]:=by decide +kernel
theorem Wy{b:Nat}(h:b<8):Builtin.Str.occurrences (Str.ofString "abcdefgh") (v7 b) 0 (Str.ofString "abcdefgh").length 1=[b]:=ae3 ⟨b,h⟩
inductive uX(CH:Addr)(K:zzy)(vs:List V)(H:Hp)(Q:VK)(dX:XK):Prop|m:∀(a r dx:Addr),vs=[.ref a,.ref r]->H a=some (.ins CH dx [])->(∀(b sy:Addr)(H':Hp),H b=none->H sy=none->b≠sy->H' a=some (.ins CH dx (hF r 0 b sy "waits"))->H' b=some (.lst ((List.replicate 8 0).map V.int))->H' sy=some (.lst [])->Kp a H H'->Q .non H')->uX CH K vs H Q dX
theorem Ve(F:fZ K "__init__" "Hand.__init__" qH f fd)(g:fY K aq)(B:Gv mg "BOXES" (.str "abcdefgh")):bR P w K mg base iB 1 f fd ["self","rows"] (uX aq K):=by
 refine F.ok FZ (λC H Q E h=>?_) (λM A v s H C Q E R h=>?_)
 .obtain⟨a,r,l,rfl,_⟩:=h
  rfl
 .obtain⟨a,r,l,rfl,L,k⟩:=h
  refine⟨_,(aB (cT (K:=K) rfl (pv 0) (pv 1) rfl)
   (aB (cT (K:=K) rfl (pv 0) aG rfl)
   (aB (cT (K:=K) rfl (pv 0) (dZ rfl (N:=["box"]) (own:=["box"]) (caps:=[]) (bB.of (by kernel_rfl)) (abq (jN (by rfl) B.choose_spec.1 B.choose_spec.2)) (λ_ _ _ _=>(bK (i:=0) (show List.Nodup (["box"]:List Str) by decide +kernel) rfl (Or.inl rfl))) (λ_ _ _ _=>dF) (λ_ _ _ _=>aG)) rfl)
   (aB (cT (K:=K) rfl (pv 0) (cJ au) rfl)
   (aJ (cT (K:=K) rfl (pv 0) bT rfl)))))),?_⟩
  refine⟨_,Z,_,Z,a,aq,l,[],Z,L,g.cls,g.qP,by decide,?_⟩;refine⟨_,Z,a,aq,l,_,Z,ak,g.cls,g.vD,(by show 1<1000;decide),?_⟩;refine⟨_,Z,λD u=>?_⟩;refine Rm (λ_=>some (.int 0)) u (by decide) (λi c H1 G F S t O J=>J _ H1 (Same.refl _) rfl) (λH1 t z=>?_);rw[G3] at z;refine⟨_,Z,a,aq,l,_,Z,t _ _ ak,g.cls,g.jC,(by show 2<1000;decide),?_⟩;have d:a≠D:=aA ak u;refine⟨(by show 0<=sizeLine;decide),λq j=>?_⟩;have b:a≠q:=aA ak j;refine⟨_,Z,a,aq,l,_,Z,(by rw[aF b];exact ak),g.cls,g.oA,(by show 3<1000;decide),?_⟩;refine⟨_,Z,a,aq,l,_,Z,ak,g.cls,g.jO,(by show 4<1000;decide),?_⟩;have y:H D=none:=by rw[aF d.symm,aF d.symm] at u;exact u
  have m:D≠q:=by
   intro e;rw[←e,aF d.symm,z] at j;cases j
  have p:H q=none:=by
   rw[aF b.symm] at j;cases e:H q with
   | none=>rfl
   | some o=>
     have:=t q o (by rw[aF b.symm,aF b.symm];exact e);rw[this] at j;cases j
  refine k D q _ y p m ?_ ?_ ?_ ?_
  .rw[ak];rfl
  .rw[aF d.symm,aF d.symm,aF m,aF d.symm,z];rfl
  .rw[aF b.symm,aF b.symm,ak]
  .intro x o e n
   have I:x≠q:=aA e p;rw[aF n,aF n,aF I,aF n];exact t x o (by rw[aF n,aF n];exact e)
theorem aaF{x:V}{l:List V}:wG (x::l) 0=some x:=bL (j:=0) rfl
theorem ae7{x z:V}{l:List V}:wG (x::y::z::l) 2=some z:=bL (j:=2) rfl
def JX(r:Rw):V:=if touch r then .int (jd r) else .non
inductive uY(K:zzy)(vs:List V)(H:Hp)(Q:VK)(dX:XK):Prop|m:∀(v:V)(r:Rw),vs=[v]->Dat H v (n_ r)->(∀H',Same H H'->Q (JX r) H')->uY K vs H Q dX
theorem QD(F:fZ K "cell_of" "cell_of" xH f fd):bR P w K mg base iB 1 f fd ["row"] (uY K):=by
 refine F.ok KJ (λG H Q E h=>?_) (λO A u s H G Q E S h=>?_)
 .obtain⟨v,r,rfl,_⟩:=h
  rfl
 .obtain⟨v,r,rfl,d,k⟩:=h
  obtain⟨t,D,rfl,i,a⟩:=Px d
  refine⟨_,(aB (cj (bD eV (aO (aX (K:=K) rfl) (pv 0) aG (λ_ _=>rfl)) bT (bA _)) (aJ (bw (aO (aX (K:=K) rfl) (pv 0) aG (λ_ _=>rfl)))) bJ)
   (aJ (bw (lO (bD (Bq (K:=K) rfl) (aO (aX (K:=K) rfl) (pv 0) aG (λ_ _=>rfl)) (dY (aj bT (aj bT au))) (by with_unfolding_all rfl)) (aO (aX (K:=K) rfl) (pv 0) aG (λ_ _=>rfl)) j8)))),?_⟩
  have N:(∃c e,r=.store c e) \/ ∃(x:Str) (j:List V),D=.str x::j/\x≠Str.ofString "store" /\ (x=Str.ofString "load" \/ x=Str.ofString "swap" -> ∃y z,j=y :: .int (jd r)::z/\touch r=true)/\(x≠Str.ofString "load" -> x≠Str.ofString "swap" -> touch r=false):=by
   cases r with
   | store c e=>exact .inl ⟨c,e,Z⟩
   | load b c=>exact .inr ⟨_,_,a,by decide +kernel,λ_=>⟨_,_,Z,Z⟩,λz=>ac' rfl z⟩
   | swap b c e=>
     obtain⟨x,g,_⟩:=a;exact .inr ⟨_,_,g,by decide +kernel,λ_=>⟨_,_,Z,Z⟩,λ_ z=>ac' rfl z⟩
   | yP b e=>
     obtain⟨x,g,_⟩:=a;exact .inr ⟨_,_,g,by decide +kernel,λz=>ac' z (by decide +kernel),λ_ _=>rfl⟩
   | say e=>
     obtain⟨x,g,_⟩:=a;exact .inr ⟨_,_,g,by decide +kernel,λz=>ac' z (by decide +kernel),λ_ _=>rfl⟩
   | go n=>exact .inr ⟨_,_,a,by decide +kernel,λz=>ac' z (by decide +kernel),λ_ _=>rfl⟩
   | yp q e f n=>
     obtain⟨x,y,g,_⟩:=a;exact .inr ⟨_,_,g,by decide +kernel,λz=>ac' z (by decide +kernel),λ_ _=>rfl⟩
  rcases N with ⟨c,e,rfl⟩|⟨x,j,rfl,I,M,L⟩
  .obtain⟨x,rfl,_⟩:=a
   refine⟨_,Z,_,_,_,_,Z,Z,cD.of i,Z,Z,_,Z,?_⟩;refine cO (λ_=>?_) (λz=>ac' (aaO rfl) z);exact⟨_,Z,_,_,_,_,Z,Z,cD.of i,Z,k H (Same.refl _)⟩
  refine⟨_,Z,_,_,_,_,Z,Z,cD.of i,aaF,Z,_,Z,?_⟩;refine cO (λz=>ac' (by simpa using aaT z) I) (λ_=>?_);refine⟨_,Z,_,_,_,_,Z,Z,cD.of i,aaF,(by show 2<=sizeLine;decide),λp J=>?_⟩;have m:=aH (o:=HO.tup [V.str (Str.ofString "load"),V.str (Str.ofString "swap")]) J;refine⟨p,_,Z,.inr (cD.of ak),Z,Z,_,Z,?_⟩
  by_cases z:x=Str.ofString "load" \/ x=Str.ofString "swap"
  .obtain⟨y,R,rfl,l⟩:=M z
   refine cO (λ_=>?_) (λq=>ac' ?_ q)
   .refine⟨_,Z,_,_,_,_,Z,Z,cD.of (m _ _ i),ae7,?_⟩
    have:=k _ m;unfold JX at this;rw[ac_ l] at this;exact this
   .rcases z with rfl|rfl<;>decide +kernel
  .have C:x≠Str.ofString "load" :=λq=>z (.inl q)
   have B:x≠Str.ofString "swap" :=λq=>z (.inr q);have l:=L C B;refine cO (λq=>ac' q ?_) (λ_=>?_)
   .simp[inV,Wf,C.symm,B.symm]
   .have:=k _ m
    unfold JX at this;rw[ac9 (by rw[l];decide)] at this;exact this
def JH:Kl->Nat
 | .one _=>1
 | .two _ _ _=>2
inductive yr(CH:Addr)(n:Nat)(K:zzy)(vs:List V)(H:Hp)(Q:VK)(dX:XK):Prop|m:∀(A:pZ)(s:bO)(v:V)(e:Kl),vs=[.ref A.h,v]->pJ CH H A s->Dat H v (oJ e)->xX e->JH e<=n->Q (.int (vx s.bs e)) H->yr CH n K vs H Q dX
theorem Yy(F:fZ K "value_of" "Hand.value_of" iJ f fd):bR P w K mg base iB 1 f fd ["self","part"] (yr aq 0 K):=by
 refine F.ok gY (λb H Q E h=>?_) (λc A a s H b Q E d h=>?_)
 .obtain⟨A,s,v,e,rfl,_,_,_,z,_⟩:=h
  cases e<;>simp[JH] at z
 .obtain⟨A,s,v,e,rfl,_,_,_,z,_⟩:=h
  cases e<;>simp[JH] at z
theorem Oi(F:fZ K "value_of" "Hand.value_of" iJ f fd)(L:MethAt P w K mg base (n+1) aq "value_of" ["self","part"] (yr aq n K))(o:fY K aq)(C:Gv mg "BOXES" (.str "abcdefgh"))(l:Gv mg "ROUND" (.int 1000)):bR P w K mg base iB (n+1+1) f fd ["self","part"] (yr aq (n+1) K):=by
 refine F.ok gY (λN H Q E h=>?_) (λU A r s H N Q E D h=>?_)
 .obtain⟨A,s,v,e,rfl,_⟩:=h
  rfl
 .obtain⟨B,z,v,e,rfl,c,d,g,j,k⟩:=h
  refine⟨_,(aB (cj (bD eV (aO (aX (K:=K) rfl) (pv 1) aG (λ_ _=>rfl)) bT (bA _)) (aJ (bw (bY pA (aO (aX (K:=K) rfl) (pv 1) aG (λ_ _=>rfl)) (jN (by rfl) l.choose_spec.1 l.choose_spec.2)))) bJ)
   (aB (cj (bD eV (aO (aX (K:=K) rfl) (pv 1) aG (λ_ _=>rfl)) bT (bA _)) (aJ (bw (aO (aL (K:=K) rfl) (aZ (K:=K) rfl (pv 0) rfl) (xO (K:=K) rfl PySem.F.plainAttrs_str PySem.F.slot_str_index PySem.F.type_str_index DY (jN (by rfl) C.choose_spec.1 C.choose_spec.2) (aj (aO (aX (K:=K) rfl) (pv 1) aG (λ_ _=>rfl)) au)) (λ_ _=>rfl)))) bJ)
   (aB (bH (i:=2) gY.nd rfl (Or.inl rfl) (cL L o.cls (D.mono (aaw _)) (pv 0) (aj (aO (aX (K:=K) rfl) (pv 1) aG (λ_ _=>rfl)) au)))
   (aB (bH (i:=3) gY.nd rfl (Or.inl rfl) (cL L o.cls (D.mono (aaw _)) (pv 0) (aj (aO (aX (K:=K) rfl) (pv 1) aG (λ_ _=>rfl)) au)))
   (aJ (bw (bY pA (lO (bD eV (aO (aX (K:=K) rfl) (pv 1) aG (λ_ _=>rfl)) bT (bA _)) (bY iR (pv 2) (pv 3)) (bY uf (pv 2) (pv 3))) (jN (by rfl) l.choose_spec.1 l.choose_spec.2)))))))),?_⟩
  match e,d,g,j,k with
  | .one (.num m),d,g,j,k=>
    obtain⟨t,rfl,a⟩:=aaE (x:= .num m) d;refine⟨_,Z,_,_,_,_,Z,Z,cD.of a,Z,Z,_,Z,?_⟩;refine cO (λ_=>?_) (λz=>ac' (aaO rfl) z);exact⟨_,Z,_,_,_,_,Z,Z,cD.of a,Z,_,_,Z,Z,(by show (0:Int)<1000;decide),k⟩
  | .one (.box b),d,g,j,k=>
    obtain⟨t,rfl,a⟩:=aaE (x:= .box b) d;refine⟨_,Z,_,_,_,_,Z,Z,cD.of a,Z,Z,_,Z,?_⟩;refine cO (λz=>ac' (aaT z) (by decide)) (λ_=>?_);refine⟨_,Z,_,_,_,_,Z,Z,cD.of a,Z,Z,_,Z,?_⟩;refine cO (λ_=>?_) (λz=>ac' (aaO rfl) z);have G:b<8:=g;refine⟨_,Z,B.h,aq,B.hx,_,_,Z,c.h,o.cls,o.jC,Z,Z,_,Z,_,_,_,_,Z,Z,cD.of a,Z,_,_,b,[],Z,Z,Wy G,_,_,_,_,Z,Z,bG.of c.b,bL (v:= .int ((z.bs[b]?).getD 0)) ?_,k⟩;have R:b<z.bs.length:=by rw[c.bl];exact G
    rw[aam,aaj R];rfl
  | .two p x y,d,g,j,k=>
    obtain⟨t,u,M,rfl,a,T,S⟩:=acB d;have I:xX (.one x)/\xX (.one y):=g
    have J:1<=n:=by
     have:2<=n+1:=j;lia
    have np:∀q:Bool,(Str.ofString "number")≠(if q then Str.ofString "plus" else Str.ofString "minus"):=by decide +kernel
    have O:∀q:Bool,(Str.ofString "box")≠(if q then Str.ofString "plus" else Str.ofString "minus"):=by decide +kernel
    refine⟨_,Z,_,_,_,_,Z,Z,cD.of a,Z,Z,_,Z,?_⟩;refine cO (λz=>ac' (by simpa using (aaT z).symm) (np p)) (λ_=>?_);refine⟨_,Z,_,_,_,_,Z,Z,cD.of a,Z,Z,_,Z,?_⟩;refine cO (λz=>ac' (by simpa using (aaT z).symm) (O p)) (λ_=>?_);refine⟨_,Z,B.h,B.hx,_,Z,c.h,Z,_,Z,_,_,_,_,Z,Z,cD.of a,Z,B,z,u,.one x,Z,c,T,I.1,J,?_⟩;refine⟨_,Z,B.h,B.hx,_,Z,c.h,Z,_,Z,_,_,_,_,Z,Z,cD.of a,Z,B,z,M,.one y,Z,c,S,I.2,J,?_⟩;refine⟨_,Z,_,_,_,_,Z,Z,cD.of a,Z,Z,_,Z,?_⟩;cases p with
    | true=>
      refine cO (λ_=>?_) (λz=>ac' (aaO rfl) z);exact⟨_,Z,_,Z,_,_,Z,Z,_,_,Z,Z,(by show (0:Int)<1000;decide),k⟩
    | false=>
      refine cO (λz=>ac' (aaT z) (by decide)) (λ_=>?_);exact⟨_,Z,_,Z,_,_,Z,Z,_,_,Z,Z,(by show (0:Int)<1000;decide),k⟩
theorem Rf(e:Kl):JH e<=2:=by cases e<;>simp[JH]
inductive zm(CH:Addr)(K:zzy)(vs:List V)(H:Hp)(Q:VK)(dX:XK):Prop|m:∀(A:pZ)(s:bO)(v:V)(q:Bool)(e f:Kl)(n:Nat),vs=[.ref A.h,v]->pJ CH H A s->Dat H v (n_ (.yp q e f n))->xX e->xX f->Q (.bl (xV s.bs (.yp q e f n))) H->zm CH K vs H Q dX
theorem Vd(F:fZ K "holds" "Hand.holds" o_ f fd)(j:MethAt P w K mg base 3 aq "value_of" ["self","part"] (yr aq 2 K))(l:fY K aq):bR P w K mg base iB 4 f fd ["self","row"] (zm aq K):=by
 refine F.ok m7 (λm H Q E h=>?_) (λC A a s H m Q E g h=>?_)
 .obtain⟨A,s,v,q,e,f,n,rfl,_⟩:=h
  rfl
 .obtain⟨B,z,v,q,e,f,n,rfl,c,d,p,o,k⟩:=h
  refine⟨_,(aB (bH (i:=2) m7.nd rfl (Or.inl rfl) (cL j l.cls (g.mono (by decide)) (pv 0) (aj (aO (aX (K:=K) rfl) (pv 1) aG (λ_ _=>rfl)) au)))
   (aB (bH (i:=3) m7.nd rfl (Or.inl rfl) (cL j l.cls (g.mono (by decide)) (pv 0) (aj (aO (aX (K:=K) rfl) (pv 1) aG (λ_ _=>rfl)) au)))
   (aJ (bw (lO (bD eV (aO (aX (K:=K) rfl) (pv 1) aG (λ_ _=>rfl)) bT (bA _)) (cZ eV (pv 2) (pv 3) (bA _)) (cZ ou (pv 2) (pv 3) (bA _))))))),?_⟩
  obtain⟨t,D,rfl,b,x,y,rfl,u,r⟩:=Px d;refine⟨_,Z,B.h,B.hx,_,Z,c.h,Z,_,Z,_,_,_,_,Z,Z,cD.of b,Z,B,z,x,e,Z,c,u,p,Rf e,?_⟩;refine⟨_,Z,B.h,B.hx,_,Z,c.h,Z,_,Z,_,_,_,_,Z,Z,cD.of b,Z,B,z,y,f,Z,c,r,o,Rf f,?_⟩;refine⟨_,Z,_,_,_,_,Z,Z,cD.of b,Z,Z,_,Z,?_⟩;cases q with
  | true=>
    refine cO (λ_=>?_) (λz=>ac' (aaO rfl) z);refine⟨_,Z,_,Z,Z,?_⟩
    have:decide (V.int (vx z.bs e)=V.int (vx z.bs f))=xV z.bs (.yp true e f n):=by
     show _=decide (vx z.bs e=vx z.bs f);rw[Bool.eq_iff_iff,decide_eq_true_iff,decide_eq_true_iff];exact⟨λz=>V.int.inj z,λz=>by rw[z]⟩
    rw[this];exact k
  | false=>
    refine cO (λz=>ac' (aaT z) (by decide)) (λ_=>?_);exact⟨_,Z,_,Z,_,_,Z,Z,k⟩
inductive Ad(CH:Addr)(K:zzy)(vs:List V)(H:Hp)(Q:VK)(dX:XK):Prop|m:∀(A:pZ)(s:bO)(b:Nat)(i:Int),vs=[.ref A.h,.str (v7 b),.int i]->pJ CH H A s->b<8->Q .non (upd H A.b (.lst ((s.bs.set b i).map V.int)))->Ad CH K vs H Q dX
theorem YC(F:fZ K "take" "Hand.take" qG f fd)(e:fY K aq)(d:Gv mg "BOXES" (.str "abcdefgh")):bR P w K mg base iB 1 f fd ["self","box","number"] (Ad aq K):=by
 refine F.ok FW (λg H Q E h=>?_) (λl A a s H g Q E m h=>?_)
 .obtain⟨A,s,b,i,rfl,_⟩:=h
  rfl
 .obtain⟨B,z,b,i,rfl,c,j,k⟩:=h
  refine⟨_,(aJ (pq (pv 2) (qM (aZ (K:=K) rfl (pv 0) rfl) (xO (K:=K) rfl PySem.F.plainAttrs_str PySem.F.slot_str_index PySem.F.type_str_index DY (jN (by rfl) d.choose_spec.1 d.choose_spec.2) (aj (pv 1) au)) set_list))),?_⟩;refine⟨_,Z,_,Z,B.h,aq,B.hx,_,_,Z,c.h,e.cls,e.jC,Z,Z,_,Z,_,_,b,[],Z,Z,Wy j,?_⟩;rw[List.map_set] at k;exact⟨B.b,_,_,b,Z,Z,c.b,(by rw[aae,c.bl];unfold QV;rw[ac_ (by lia),ac_ (by lia)];simp),k⟩
inductive XM(CH:Addr)(K:zzy)(vs:List V)(H:Hp)(Q:VK)(dX:XK):Prop|m:∀(A:pZ)(s:bO)(v:V)(r:Rw)(m:Nat),vs=[.ref A.h,v]->pJ CH H A s->Dat H v (n_ r)->I_ m r->touch r=false->s.sy.length<1000000->(∀H',pJ CH H' A (yD s r)->KH A H H'->Q .non H')->XM CH K vs H Q dX
theorem aeb(F:fZ K "do" "Hand.do" xK f fd)(J:MethAt P w K mg base 3 aq "value_of" ["self","part"] (yr aq 2 K))(M:MethAt P w K mg base 1 aq "take" ["self","box","number"] (Ad aq K))(O:MethAt P w K mg base 4 aq "holds" ["self","row"] (zm aq K))(i:fY K aq):bR P w K mg base iB 5 f fd ["self","row"] (XM aq K):=by
 refine F.ok KN (λL H Q E h=>?_) (λN A D s H L Q E p h=>?_)
 .obtain⟨A,s,v,r,m,rfl,_⟩:=h
  rfl
 .obtain⟨B,z,v,r,m,rfl,c,d,l,C,S,k⟩:=h
  refine⟨_,(aB (Bl (K:=K) rfl (pv 0) aG GD)
   (aJ (cj (bD eV (aO (aX (K:=K) rfl) (pv 1) aG (λ_ _=>rfl)) bT (bA _)) (aJ (cN (cL M i.cls (p.mono (by decide)) (pv 0) (aj (aO (aX (K:=K) rfl) (pv 1) aG (λ_ _=>rfl)) (aj (cL J i.cls (p.mono (by decide)) (pv 0) (aj (aO (aX (K:=K) rfl) (pv 1) aG (λ_ _=>rfl)) au)) au))))) (aJ (cj (bD eV (aO (aX (K:=K) rfl) (pv 1) aG (λ_ _=>rfl)) bT (bA _)) (aJ (cN (dO (K:=K) rfl (aZ (K:=K) rfl (pv 0) rfl) (aj (cL J i.cls (p.mono (by decide)) (pv 0) (aj (aO (aX (K:=K) rfl) (pv 1) aG (λ_ _=>rfl)) au)) au)))) (aJ (cj (PW.pt (pN (bD eV (aO (aX (K:=K) rfl) (pv 1) aG (λ_ _=>rfl)) bT (bA _)) (nJ (fP (dH (cL O i.cls (p.mono (by decide)) (pv 0) (aj (pv 1) au))))))) (aJ (cT (K:=K) rfl (pv 0) (aO (aX (K:=K) rfl) (pv 1) (Us Ku aG) (λ_ _=>rfl)) rfl)) bJ))))))),?_⟩
  refine⟨_,Z,B.h,aq,B.hx,_,_,Z,c.h,i.cls,i.vD,Z,_,_,Z,Z,B.hx,_,c.h,(by show 5<1000;decide),?_⟩;rw[Bh];have a:=c.tQ (z.pos+1) z.st;have j:KH B H (upd H B.h (.ins aq B.hx (hF B.r ((z.pos+1:Nat):Int) B.b B.sy z.st))):=KH.tQ;have G:=d.keep (c.tup j) _ (GJ r);dsimp only;rw[show ((z.pos:Nat):Int)+1=((z.pos+1:Nat):Int) by lia];generalize (upd H B.h (.ins aq B.hx (hF B.r ((z.pos+1:Nat):Int) B.b B.sy z.st)))=H1 at a j G ⊢;obtain⟨t,R,rfl,g,o⟩:=Px G;cases r with
  | load b I=>cases C
  | store I e=>cases C
  | swap b I e=>cases C
  | yP b e=>
    obtain⟨x,rfl,u⟩:=o;refine⟨_,Z,_,_,_,_,Z,Z,cD.of g,Z,Z,_,Z,?_⟩;refine cO (λ_=>?_) (λz=>ac' (aaO rfl) z);refine⟨_,Z,B.h,B.hx,_,Z,a.h,Z,_,Z,_,_,_,_,Z,Z,cD.of g,Z,_,Z,B.h,B.hx,_,Z,a.h,Z,_,Z,_,_,_,_,Z,Z,cD.of g,Z,B,_,x,e,Z,a,u,l.2,Rf e,?_⟩;exact⟨B,_,b,_,Z,a,l.1,k _ (a.Tt _ (by rw[acW];exact a.bl)) (j.trans KH.Tt)⟩
  | say e=>
    obtain⟨x,rfl,u⟩:=o;refine⟨_,Z,_,_,_,_,Z,Z,cD.of g,Z,Z,_,Z,?_⟩;refine cO (λz=>ac' (aaT z) (by decide)) (λ_=>?_);refine⟨_,Z,_,_,_,_,Z,Z,cD.of g,Z,Z,_,Z,?_⟩;refine cO (λ_=>?_) (λz=>ac' (aaO rfl) z);refine⟨_,Z,B.h,aq,B.hx,_,_,Z,a.h,i.cls,i.oA,Z,.inl ⟨Z,_,bG.of a.y⟩,_,Z,B.h,B.hx,_,Z,a.h,Z,_,Z,_,_,_,_,Z,Z,cD.of g,Z,B,_,x,e,Z,a,u,l,Rf e,?_⟩;refine⟨_,_,_,Z,Z,a.y,(by rw[aae,sizeLine_eq];show z.sy.length<_;lia),?_⟩;have:=k _ (a.aa' (z.sy++[vx z.bs e])) (j.trans KH.aa');rw[ab1] at this;exact this
  | go n=>
    obtain rfl:=o;refine⟨_,Z,_,_,_,_,Z,Z,cD.of g,Z,Z,_,Z,?_⟩;refine cO (λz=>ac' (aaT z) (by decide)) (λ_=>?_);refine⟨_,Z,_,_,_,_,Z,Z,cD.of g,Z,Z,_,Z,?_⟩;refine cO (λz=>ac' (aaT z) (by decide)) (λ_=>?_);refine⟨_,Z,_,_,_,_,Z,Z,cD.of g,Z,Z,_,Z,?_⟩;refine cO (λ_=>?_) (λz=>ac' (aaO rfl) z);refine fH ?_;refine⟨_,Z,_,Z,_,_,_,_,Z,Z,cD.of g,Z,_,Z,B.h,aq,B.hx,_,Z,a.h,i.cls,i.vD,(by show 5<1000;decide),?_⟩;rw[Bh];exact k _ (a.tQ n z.st) (j.trans KH.tQ)
  | yp q e f n=>
    obtain⟨x,y,rfl,u,T⟩:=o;refine⟨_,Z,_,_,_,_,Z,Z,cD.of g,Z,Z,_,Z,?_⟩;refine cO (λz=>ac' (aaT z) (by decide)) (λ_=>?_);refine⟨_,Z,_,_,_,_,Z,Z,cD.of g,Z,Z,_,Z,?_⟩;refine cO (λz=>ac' (aaT z) (by decide)) (λ_=>?_);refine⟨_,Z,_,_,_,_,Z,Z,cD.of g,Z,Z,_,Z,?_⟩;refine cO (λz=>ac' (aaT z) (by decide)) (λ_=>?_);refine⟨_,Z,B.h,B.hx,_,Z,a.h,Z,_,Z,B,_,_,q,e,f,n,Z,a,G,l.1,l.2,_,Z,?_⟩;cases hh:xV z.bs (.yp q e f n) with
    | true=>
      refine cX ?_;refine k _ ?_ j;show pJ aq H1 B {z with pos:=if xV z.bs (.yp q e f n) then z.pos+1 else n};rw[hh];exact a
    | false=>
      refine fH ?_;refine⟨_,Z,_,Z,_,_,_,_,Z,Z,cD.of g,Z,_,Z,B.h,aq,B.hx,_,Z,a.h,i.cls,i.vD,(by show 5<1000;decide),?_⟩;rw[Bh];refine k _ ?_ (j.trans KH.tQ);show pJ aq _ B {z with pos:=if xV z.bs (.yp q e f n) then z.pos+1 else n};rw[hh];exact a.tQ n z.st
def fL(H:Hp)(r:Addr)(m:Nat)(a:List Rw):Prop:=∃b,H r=some (.lst b)/\aR H b (a.map n_)/\(∀x∈a,I_ m x)/\a.length<=1000
theorem Jz(a:List Rw):qT (a.map n_)=true:=cH n_ GJ a
theorem fL.keep{H H':Hp}{r:Addr}{m:Nat}{a:List Rw}(h:fL H r m a)(k:∀o,H r=some o->H' r=some o)(t:∀x xs,H x=some (.tup xs)->H' x=some (.tup xs)):fL H' r m a:=by
 obtain⟨b,e,d,q⟩:=h;exact⟨b,k _ e,d.keep t _ (Jz a),q⟩
theorem fL.same{r:Addr}{a:List Rw}(h:fL H r m a)(k:Same H H'):fL H' r m a:=h.keep (λo e=>k _ _ e) k.tups
inductive Ae(CH:Addr)(K:zzy)(vs:List V)(H:Hp)(Q:VK)(dX:XK):Prop|m:∀(A:pZ)(s:bO)(m:Nat),vs=[.ref A.h]->pJ CH H A s->fL H A.r m s.rws->A.r≠A.b->A.r≠A.sy->s.sy.length<900000->(∀H',pJ CH H' A (lead s)->KH A H H'->Q .non H')->Ae CH K vs H Q dX
theorem YL(F:fZ K "lead_on" "Hand.lead_on" lJ f fd)(yj:FnAt P w K mg base 1 "cell_of" ["row"] (uY K))(Ry:MethAt P w K mg base 5 aq "do" ["self","row"] (XM aq K))(a:fY K aq)(W:Gv mg "MOST_UNTOUCHING" (.int 60))(Bt:nR mg):bR P w K mg base iB 6 f fd ["self"] (Ae aq K):=by
 refine F.ok jZ (λvs H Q E h=>?_) (λa1 A D s H vs Q E U h=>?_)
 .obtain⟨A,s,m,rfl,_⟩:=h
  rfl
 .obtain⟨B,s,m,rfl,c,R,J,G,sl,k⟩:=h
  refine⟨_,(aB (bH (i:=1) jZ.nd rfl (Or.inl rfl) aG)
   (aB (Uj PassesOwn.never (PW.pt (ud (bD ou (aZ (K:=K) rfl (pv 0) rfl) (aV (aW (K:=K) rfl) (by rfl) Bt.dJ cG (aj (aZ (K:=K) rfl (pv 0) rfl) au)) (bA _)) (rY (bD Gq (bN yj (U.mono (by decide)) (by rfl) (aj (aO (aL (K:=K) rfl) (aZ (K:=K) rfl (pv 0) rfl) (aZ (K:=K) rfl (pv 0) rfl) (λ_ _=>rfl)) au)) j8 (bA _))))) (aB (cj (bD eV (pv 1) (jN (by rfl) W.choose_spec.1 W.choose_spec.2) (bA _)) (aB (cT (K:=K) rfl (pv 0) bT rfl)
   (aJ Yl)) bJ)
   (aB (cN (cL Ry a.cls (U.mono (by decide)) (pv 0) (aj (aO (aL (K:=K) rfl) (aZ (K:=K) rfl (pv 0) rfl) (aZ (K:=K) rfl (pv 0) rfl) (λ_ _=>rfl)) au)))
   (aJ (abo (i:=1) jZ.nd rfl (Or.inl rfl) aG GD)))))
   (aJ (cT (K:=K) rfl (pv 0) (lO (bD ou (aZ (K:=K) rfl (pv 0) rfl) (aV (aW (K:=K) rfl) (by rfl) Bt.dJ cG (aj (aZ (K:=K) rfl (pv 0) rfl) au)) (bA _)) bT bT) rfl)))),?_⟩
  have I:B.r≠B.h:=by
   obtain⟨t,e,_⟩:=R;exact dD e c.h (by intro z;cases z)
  refine⟨λn N H1=>∃(d:Nat) (z:bO),N=[some (.ref B.h),some (.int d)]/\d<=60/\n=60-d/\pJ aq H1 B z/\KH B H H1/\led (60-d) z=lead s/\z.rws=s.rws/\z.sy.length<=s.sy.length+d,
   ⟨60,0,s,Z,by decide,Z,c,KH.of_same (Same.refl _),Z,Z,aaw _⟩,λn N H1 M=>?_⟩
  obtain⟨d,z,rfl,a0,rfl,j,x,y,O,zs⟩:=M
  have R1:fL H1 B.r m z.rws:=by
   rw[O];exact R.keep (λo e=>x _ _ e I J G) (c.tup x)
  obtain⟨t,g,l,ro,rl⟩:=R1;have ln:t.length=z.rws.length:=by rw[l.length,aae]
  refine⟨_,Z,B.h,aq,B.hx,_,_,Z,j.h,a.cls,a.vD,Z,_,Z,B.h,aq,B.hx,_,_,Z,j.h,a.cls,a.qP,Z,B.r,_,Z,.inl (bG.of g),_,_,Z,Z,_,Z,?_⟩;cases er:z.rws[z.pos]? with
  | none=>
    have ge:z.rws.length<=z.pos:=List.getElem?_eq_none_iff.mp er;have lf:¬decide (((z.pos:Nat):Int)<((t.length:Nat):Int))=true:=by rw[ln];simp;lia
    refine cO (λq=>ac' q lf) (λ_=>?_);refine cX ?_;refine⟨_,Z,B.h,aq,B.hx,_,_,Z,j.h,a.cls,a.vD,Z,_,Z,B.h,aq,B.hx,_,_,Z,j.h,a.cls,a.qP,Z,B.r,_,Z,.inl (bG.of g),_,_,Z,Z,_,Z,?_⟩;refine cO (λq=>ac' q lf) (λ_=>?_);refine⟨_,Z,B.h,aq,B.hx,_,Z,j.h,a.cls,a.jO,(by show 5<1000;decide),?_⟩;rw[Gj];refine k _ ?_ (x.trans KH.tQ)
    have:lead s={z with st:= "ends" }:=by
     rw[←y];cases e60:60-d<;>simp only[led,er]
    rw[this];exact j.tQ z.pos "ends"
  | some r=>
    have lt:z.pos<z.rws.length:=(aak.mp er).1;have T:decide (((z.pos:Nat):Int)<((t.length:Nat):Int))=true:=by rw[ln];simp;lia
    obtain⟨v,ev,Y⟩:=l.getD (i:=z.pos) (d:=n_ r) (by rw[aam,er];rfl);refine cO (λ_=>?_) (λq=>ac' T q);refine⟨_,Z,B.h,aq,B.hx,_,_,Z,j.h,a.cls,a.qP,Z,_,Z,B.h,aq,B.hx,_,_,Z,j.h,a.cls,a.vD,Z,_,_,_,_,Z,Z,bG.of g,bL ev,v,r,Z,Y,λH2 u=>⟨Z,_,Z,?_⟩⟩;have b:=j.same u;have p:=u _ _ g;have L:=x.trans (KH.of_same (A:=B) u);cases tr:touch r with
    | true=>
      refine cO (λq=>ac' (aaT q) (by unfold JX;rw[ac_ tr];intro z;cases z)) (λ_=>?_);refine⟨_,Z,B.h,aq,B.hx,_,_,Z,b.h,a.cls,a.vD,Z,_,Z,B.h,aq,B.hx,_,_,Z,b.h,a.cls,a.qP,Z,B.r,_,Z,.inl (bG.of p),_,_,Z,Z,_,Z,?_⟩;refine cO (λ_=>?_) (λq=>ac' T q);refine⟨_,Z,B.h,aq,B.hx,_,Z,b.h,a.cls,a.jO,(by show 5<1000;decide),?_⟩;rw[Gj];refine k _ ?_ (L.trans KH.tQ)
      have:lead s={z with st:= "waits" }:=by
       rw[←y];cases e60:60-d<;>simp only[led,er,tr,if_true]
      rw[this];exact b.tQ z.pos "waits"
    | false=>
      refine cO (λ_=>?_) (λq=>ac' (aaO (by unfold JX;rw[ac9 (by rw[tr];decide)])) q);refine⟨λC H'=>∃S,S<60-d /\ ∃(d:Nat) (z:bO),C=[some (.ref B.h),some (.int d)]/\d<=60/\S=60-d/\pJ aq H' B z/\KH B H H'/\led (60-d) z=lead s/\z.rws=s.rws/\z.sy.length<=s.sy.length+d,λ_ _ q=>q,?_⟩;refine⟨_,Z,Z,_,Z,?_⟩
      by_cases X:d=60
      .subst X
       refine cO (λ_=>?_) (λq=>ac' (aaO rfl) q);refine⟨_,Z,B.h,aq,B.hx,_,Z,b.h,a.cls,a.jO,(by show 5<1000;decide),?_⟩;rw[Gj];refine k _ ?_ (L.trans KH.tQ)
       have:lead s={z with st:= "lost" }:=by
        rw[←y];show led 0 z=_;simp only[led,er,tr];rfl
       rw[this];exact b.tQ z.pos "lost"
      .refine cO (λq=>ac' (by have:=V.int.inj (aaT q);lia) X) (λ_=>?_)
       refine⟨_,Z,B.h,B.hx,_,Z,b.h,Z,_,Z,B.h,aq,B.hx,_,_,Z,b.h,a.cls,a.qP,Z,_,Z,B.h,aq,B.hx,_,_,Z,b.h,a.cls,a.vD,Z,_,_,_,_,Z,Z,bG.of p,bL ev,B,z,v,r,m,Z,b,Y.same u _,ro r (aaK er),tr,by lia,λH3 c3 k3=>?_⟩;refine⟨_,Z,_,_,Z,Z,60-(d+1),by lia,d+1,yD z r,Z,by lia,Z,c3,L.trans k3,?_,by rw[En,O],?_⟩
       .rw[←y,show 60-d=(60-(d+1))+1 by lia]
        simp only[led,er,tr];rfl
       .have:=JN z r
        lia
def wF(b c hs a:Addr):List (Str×V):=[("program",.ref b),("numbers",.ref c),("hands",.ref hs),("turns",.ref a)]
def qO(m:Int)(ns:List Int):Prop:=(ns.length:Int)=m /\ ∀x∈ns,0<=x/\x<1000
inductive oR(CN:Addr)(K:zzy)(vs:List V)(H:Hp)(Q:VK)(E:XK):Prop|m:∀(cl:Addr)(m:Int)(ns:List Int),vs=[.ref cl,.int m]->H cl=some (.lst (ns.map V.int))->ns.length<=100->(qO m ns -> ∀H',Same H H'->Q .non H')->(¬qO m ns -> ∀H',Same H H'->E (.ref CN) none H')->oR CN K vs H Q E
theorem Jg(F:fZ K "check_numbers" "check_numbers" j4 f fd)(M:FnAt P w K mg base 2 "is_below" ["value","count"] (rT K))(t:Gv mg "ROUND" (.int 1000))(j:nR mg)(d:Xr K mg bW "NoNumber"):bR P w K mg base (uG P w) 3 f fd ["cells","count"] (oR bW K):=by
 refine F.okX wZ (λB H Q E h=>?_) (λO A l s H B Q E J h u=>?_)
 .obtain⟨cl,m,a,rfl,_⟩:=h
  rfl
 .obtain⟨cl,m,a,rfl,e,nl,I,r⟩:=h
  refine⟨_,(aB (cj (PW.pt (pN (fP (dH (aV (cR (K:=K) (cv:= .ty "list") (c:= .type "list") rfl rfl) (by rfl) j.bQ bM (aj (pv 0) (aj (fM (v:= .ty "list") (by rfl) j.iD fO rfl) au))))) (nJ (bD pP (aV (aW (K:=K) rfl) (by rfl) j.dJ cG (aj (pv 0) au)) (pv 1) (bA _))))) (aJ (lN PySem.F.excBase_ValueError d.ex d.bd (by rfl) rfl rfl u (aj bT au))) bJ)
   (aJ (cj (fP (dH (aV (iM (K:=K) rfl rfl) (by rfl) j.Pr Hu (aj (dZ rfl (N:=["number"]) (own:=["number"]) (caps:=[]) (bB.of (by kernel_rfl)) (dg (K:=K) rfl (pv 0)) (λ_ _ _ _=>(bK (i:=0) (show List.Nodup (["number"]:List Str) by decide +kernel) rfl (Or.inl rfl))) (λ_ _ _ _=>dF) (λ_ _ _ _=>(bN M (J.mono (by decide)) (by rfl) (aj (pv 0) (aj (jN (by rfl) t.choose_spec.1 t.choose_spec.2) au))))) au)))) (aJ (lN PySem.F.excBase_ValueError d.ex d.bd (by rfl) rfl rfl u (aj bT au))) bJ))),?_⟩
  refine⟨_,Z,_,_,true,Z,.lst e,jQ K,true,Z,?_⟩;refine cX ?_;refine⟨_,Z,cl,_,Z,.inl (bG.of e),_,Z,Z,_,Z,?_⟩;rw[aae]
  by_cases g:(a.length:Int)=m
  rotate_left
  .refine cO (λ_=>?_) (λz=>ac' (by simp[g]) z)
   exact⟨(by show 1<=sizeLine;decide),r (λz=>g z.1) H (Same.refl _)⟩
  refine vK (by rw[g]) ?_;refine⟨_,Z,cl,Z,⟨_,bG.of e⟩,λD L=>?_⟩;refine jV (K:=K) (λi=>(a[i]?).map λx=>V.bl (decide (wC x 1000))) L (bG.of e) (by rw[aae];lia) (λi v H2 G F b k R C=>?_) (λH2 k y=>?_)
  .rw[aam] at b
   cases ei:a[i]? with
   | none=>rw[ei] at b;cases b
   | some z=>
     rw[ei] at b;cases b;exact⟨_,Z,z,1000,Z,C _ H2 (Same.refl _) (by rw[ei];rfl)⟩
  rw[aae,O6] at y;refine⟨D,a.map (λx=>decide (wC x 1000)),Z,bG.of (by rw[y,acV];rfl),_,Z,?_⟩
  by_cases al:∀x∈a,wC x 1000
  .have q:(a.map (λx=>decide (wC x 1000))).all id=true:=by
    rw[List.all_map,List.all_eq_true];intro h o;exact aaO (al h o)
   rw[q];refine cX ?_;exact I ⟨g,λx n=>al x n⟩ H2 k
  .have q:(a.map (λx=>decide (wC x 1000))).all id=false:=by
    rw[List.all_map,←Bool.not_eq_true,List.all_eq_true];intro z;exact al λh o=>aaT (p:=wC h 1000) (z h o)
   rw[q];refine fH ?_;exact⟨(by show 1<=sizeLine;decide),r (λz=>al λx n=>z.2 x n) H2 k⟩
inductive rQ(CW CH:Addr)(K:zzy)(vs:List V)(H:Hp)(Q:VK)(dX:XK):Prop|m:∀(o dx pg nb hl tn:Addr)(A:pZ)(s:bO)(m:Nat)(ns:List Int)(r:Rw),vs=[.ref o,.ref A.h]->H o=some (.ins CW dx (wF pg nb hl tn))->H nb=some (.lst (ns.map V.int))->ns.length=m->pJ CH H A s->fL H A.r m s.rws->s.rws[s.pos]?=some r->touch r=true->nb≠A.b->nb≠A.sy->(∀t H',H t=none->H' t=some (.tup (z_ ns s.bs r))->pJ CH H' A {s with bs:=ux ns s.bs r}->H' nb=some (.lst ((dU ns s.bs r).map V.int))->(∀x u,H x=some u->x≠nb->x≠A.b->H' x=some u)->Q (.ref t) H')->rQ CW CH K vs H Q dX
theorem K8(F:fZ K "touch_by" "Works.touch_by" jw f fd)(yj:FnAt P w K mg base 1 "cell_of" ["row"] (uY K))(cF:MethAt P w K mg base 3 aq "value_of" ["self","part"] (yr aq 2 K))(rH:MethAt P w K mg base 1 aq "take" ["self","box","number"] (Ad aq K))(N:dz K ao)(X:fY K aq):bR P w K mg base iB 4 f fd ["self","one"] (rQ ao aq K):=by
 refine F.ok fB (λvs H Q E h=>?_) (λb0 A a3 s H vs Q E hr h=>?_)
 .obtain⟨o,dx,pg,I,hl,tn,A,s,m,l,r,rfl,_⟩:=h
  rfl
 .obtain⟨o,dx,pg,I,hl,tn,B,z,m,l,r,rfl,ho,a6,nl,c,R,er,tr,L,a1,k⟩:=h
  refine⟨_,(aB (bH (i:=2) fB.nd rfl (Or.inl rfl) (aO (aL (K:=K) rfl) (aZ (K:=K) rfl (pv 1) rfl) (aZ (K:=K) rfl (pv 1) rfl) (λ_ _=>rfl)))
   (aB (bH (i:=3) fB.nd rfl (Or.inl rfl) (bN yj (hr.mono (by decide)) (by rfl) (aj (pv 2) au)))
   (aB (bH (i:=4) fB.nd rfl (Or.inl rfl) (lO (bD eV (aO (aX (K:=K) rfl) (pv 2) aG (λ_ _=>rfl)) bT (bA _)) j8 (aO (aL (K:=K) rfl) (aZ (K:=K) rfl (pv 0) rfl) (pv 3) (λ_ _=>rfl))))
   (aB (bH (i:=5) fB.nd rfl (Or.inl rfl) (lO (bD eV (aO (aX (K:=K) rfl) (pv 2) aG (λ_ _=>rfl)) bT (bA _)) j8 (cL cF X.cls (hr.mono (by decide)) (pv 1) (aj (aO (aX (K:=K) rfl) (pv 2) (Us Ku aG) (λ_ _=>rfl)) au))))
   (aB (cj (bD Og (pv 4) j8 (bA _)) (aJ (cN (cL rH X.cls (hr.mono (by decide)) (pv 1) (aj (aO (aX (K:=K) rfl) (pv 2) aG (λ_ _=>rfl)) (aj (pv 4) au))))) bJ)
   (aB (cj (bD Og (pv 5) j8 (bA _)) (aJ (pq (pv 5) (qM (aZ (K:=K) rfl (pv 0) rfl) (pv 3) set_list))) bJ)
   (aJ (bw (dY (aj (aO (aX (K:=K) rfl) (pv 2) aG (λ_ _=>rfl)) (aj (pv 3) (aj (pv 4) (aj (pv 5) au))))))))))))),?_⟩
  obtain⟨ts,a5,a7,ro,rl⟩:=R;obtain⟨v,ev,dv⟩:=a7.getD (i:=z.pos) (d:=n_ r) (by rw[aam,er];rfl);have J:=ro r (aaK er);refine⟨_,Z,B.h,aq,B.hx,_,_,Z,c.h,X.cls,X.qP,Z,_,Z,B.h,aq,B.hx,_,_,Z,c.h,X.cls,X.vD,Z,_,_,_,_,Z,Z,bG.of a5,bL ev,?_⟩;refine⟨_,Z,v,r,Z,dv,λH1 G=>?_⟩;have g:=c.same G;have C:=G _ _ ho;have M:=G _ _ a6;obtain⟨t,ws,rfl,y,ps⟩:=Px (dv.same G _);have a9:o≠I:=dD C M (by intro z;cases z);have a4:o≠B.b:=dD C g.b (by intro z;cases z);have a0:t≠B.b:=dD y g.b (by intro z;cases z);have Y:t≠I:=dD y M (by intro z;cases z);have cellOf:∀a,a<m->l[a]?=some ((l[a]?).getD 0):=λa h=>by rw[aaj (by lia)];rfl
  have cellAt:∀a,a<m->(l.map V.int)[a]?=some (.int ((l[a]?).getD 0)):=λa h=>by rw[aam,cellOf a h];rfl
  have a2:∀a,a<m->QV (l.map V.int).length ((a:Nat):Int)=some a:=λa h=>by rw[aae];unfold QV;rw[ac_ (by lia),ac_ (by lia)];simp
  cases r with
  | load b a=>
    obtain rfl:=ps;refine⟨_,Z,_,_,_,_,Z,Z,cD.of y,Z,Z,_,Z,?_⟩;refine cO (λz=>ac' (aaT z) (by decide)) (λ_=>?_);refine⟨_,Z,o,ao,dx,_,_,Z,C,N.cls,N.jB,Z,_,Z,_,_,_,_,Z,Z,bG.of M,bL (cellAt a J.2),?_⟩;refine⟨_,Z,_,_,_,_,Z,Z,cD.of y,Z,Z,_,Z,?_⟩;refine cO (λ_=>?_) (λz=>ac' (aaO rfl) z);refine⟨_,Z,Z,_,Z,?_⟩;refine fH ?_;refine⟨_,Z,B.h,B.hx,_,Z,g.h,Z,_,Z,_,_,_,_,Z,Z,cD.of y,Z,_,Z,B,z,b,_,Z,g,J.1,?_⟩;refine⟨_,Z,Z,_,Z,?_⟩;refine cX ?_;have T:=g.Tt (z.bs.set b ((l[a]?).getD 0)) (by rw[acW];exact g.bl);refine⟨_,Z,_,_,_,_,Z,Z,cD.of (by rw[aF a0];exact y),Z,_,Z,_,Z,_,Z,(by show 4<=sizeLine;decide),λp j=>?_⟩;have D:=aH (o:=HO.tup [V.str (Str.ofString "load"),V.int a,V.int ((l[a]?).getD 0),V.non]) j;refine k p _ ?_ ?_ (T.same D) (D _ _ (by rw[aF L];exact M)) ?_
    .refine G.free ?_
     have:p≠B.b:=λe=>by rw[e,ak] at j;cases j
     rw[aF this] at j;exact j
    .rw[ak]
     show some (HO.tup [V.str (Str.ofString "load"),V.int a,V.int ((l[a]?).getD 0),V.non])=some (HO.tup [V.str (Str.ofString "load"),V.int a,oV (l[a]?),V.non]);rw[cellOf a J.2];rfl
    .intro x u e W U
     exact D _ _ (by rw[aF U];exact G _ _ e)
  | store a e=>
    obtain⟨x,rfl,S⟩:=ps;refine⟨_,Z,_,_,_,_,Z,Z,cD.of y,Z,Z,_,Z,?_⟩;refine cO (λ_=>?_) (λz=>ac' (aaO rfl) z);refine⟨_,Z,_,_,_,_,Z,Z,cD.of y,Z,Z,_,Z,?_⟩;refine cO (λz=>ac' (aaT z) (by decide)) (λ_=>?_);refine⟨_,Z,B.h,B.hx,_,Z,g.h,Z,_,Z,_,Z,_,_,_,_,Z,Z,cD.of y,Z,B,z,x,e,Z,g,S,J.2,Rf e,?_⟩;refine⟨_,Z,Z,_,Z,?_⟩;refine cX ?_;refine⟨_,Z,Z,_,Z,?_⟩;refine fH ?_;refine⟨_,Z,_,Z,o,ao,dx,_,_,Z,C,N.cls,N.jB,Z,_,Z,I,_,_,a,Z,Z,M,a2 a J.1,?_⟩;rw[←List.map_set];refine⟨_,Z,_,_,_,_,Z,Z,cD.of (by rw[aF Y];exact y),Z,_,Z,_,Z,_,Z,(by show 4<=sizeLine;decide),λp j=>?_⟩;have D:=aH (o:=HO.tup [V.str (Str.ofString "store"),V.int a,V.non,V.int (vx z.bs e)]) j;have O:B.h≠I:=dD g.h M (by intro z;cases z);refine k p _ ?_ ak (pJ.same ⟨by rw[aF O];exact g.h,by rw[aF L.symm];exact g.b,by rw[aF a1.symm];exact g.y,g.QJ,g.bl⟩ D) (D _ _ ak) ?_
    .refine G.free ?_
     have:p≠I:=λe=>by rw[e,ak] at j;cases j
     rw[aF this] at j;exact j
    .intro x u e W U
     exact D _ _ (by rw[aF W];exact G _ _ e)
  | swap b a e=>
    obtain⟨x,rfl,S⟩:=ps;refine⟨_,Z,_,_,_,_,Z,Z,cD.of y,Z,Z,_,Z,?_⟩;refine cO (λz=>ac' (aaT z) (by decide)) (λ_=>?_);refine⟨_,Z,o,ao,dx,_,_,Z,C,N.cls,N.jB,Z,_,Z,_,_,_,_,Z,Z,bG.of M,bL (cellAt a J.2.1),?_⟩;refine⟨_,Z,_,_,_,_,Z,Z,cD.of y,Z,Z,_,Z,?_⟩;refine cO (λz=>ac' (aaT z) (by decide)) (λ_=>?_);refine⟨_,Z,B.h,B.hx,_,Z,g.h,Z,_,Z,_,Z,_,_,_,_,Z,Z,cD.of y,Z,B,z,x,e,Z,g,S,J.2.2,Rf e,?_⟩;refine⟨_,Z,Z,_,Z,?_⟩;refine fH ?_;refine⟨_,Z,B.h,B.hx,_,Z,g.h,Z,_,Z,_,_,_,_,Z,Z,cD.of y,Z,_,Z,B,z,b,_,Z,g,J.1,?_⟩;refine⟨_,Z,Z,_,Z,?_⟩;refine fH ?_;have T:=g.Tt (z.bs.set b ((l[a]?).getD 0)) (by rw[acW];exact g.bl);have a8:(upd H1 B.b (.lst ((z.bs.set b ((l[a]?).getD 0)).map V.int))) I=some (.lst (l.map V.int)):=by rw[aF L];exact M
    refine⟨_,Z,_,Z,o,ao,dx,_,_,Z,(by rw[aF a4];exact C),N.cls,N.jB,Z,_,Z,I,_,_,a,Z,Z,a8,a2 a J.2.1,?_⟩;rw[←List.map_set];refine⟨_,Z,_,_,_,_,Z,Z,cD.of (by rw[aF Y,aF a0];exact y),Z,_,Z,_,Z,_,Z,(by show 4<=sizeLine;decide),λp j=>?_⟩;have D:=aH (o:=HO.tup [V.str (Str.ofString "swap"),V.int a,V.int ((l[a]?).getD 0),V.int (vx z.bs e)]) j;have O:B.h≠I:=dD g.h M (by intro z;cases z);refine k p _ ?_ ?_ (pJ.same ⟨by rw[aF O];exact T.h,by rw[aF L.symm];exact T.b,by rw[aF a1.symm];exact T.y,T.QJ,T.bl⟩ D) (D _ _ ak) ?_
    .refine G.free ?_
     have W:p≠I:=λe=>by rw[e,ak] at j;cases j
     rw[aF W] at j;have U:p≠B.b:=λe=>by rw[e,ak] at j;cases j
     rw[aF U] at j;exact j
    .rw[ak]
     show some (HO.tup [V.str (Str.ofString "swap"),V.int a,V.int ((l[a]?).getD 0),V.int (vx z.bs e)])=some (HO.tup [V.str (Str.ofString "swap"),V.int a,oV (l[a]?),V.int (vx z.bs e)]);rw[cellOf a J.2.1];rfl
    .intro x u e W U
     exact D _ _ (by rw[aF W,aF U];exact G _ _ e)
  | yP b e=>cases tr
  | say e=>cases tr
  | go n=>cases tr
  | yp q e f n=>cases tr
structure wg where
 (o dx pg L nb hl tn:Addr) (rs:List Addr) (hd:List pZ)
structure yV(CH:Addr)(i k m:Nat)(τ:Tg)(H:Hp)(A:pZ)(s:bO):Prop where
 c:pJ CH H A s
 r:fL H A.r m s.rws
 tr:τ A.r=[0]
 th:τ A.h=[i,4,k]
 tb:τ A.b=[i,5,k]
 ty:τ A.sy=[i,6,k]
structure mC(CW CH:Addr)(i:Nat)(τ:Tg)(H:Hp)(W:wg)(S:eO):Prop where
 un:sU τ H
 i0:i≠0
 o:H W.o=some (.ins CW W.dx (wF W.pg W.nb W.hl W.tn))
 pg:H W.pg=some (.tup [.int S.m,.ref W.L])
 L:H W.L=some (.lst (W.rs.map V.ref))
 nb:H W.nb=some (.lst (S.ns.map V.int))
 hl:H W.hl=some (.lst (W.hd.map λa=> .ref a.h))
 tn:H W.tn=some (.lst (S.ts.map V.int))
 to:τ W.o=[i,0]
 tb:τ W.nb=[i,1]
 tl:τ W.hl=[i,2]
 tt:τ W.tn=[i,3]
 tL:τ W.L=[0]
 rl:W.rs.length=S.hs.length
 rs:∀(k:Nat)(r:Addr)(s:bO),W.rs[k]?=some r->S.hs[k]?=some s->τ r=[0]/\fL H r S.m s.rws
 len:W.hd.length=S.hs.length
 hd:∀(k:Nat)(A:pZ)(s:bO),W.hd[k]?=some A->S.hs[k]?=some s->yV CH i k S.m τ H A s
 ok:∀s∈S.hs,sX s
 sl:∀s∈S.hs,s.sy.length<=60*(S.ts.length+1)
 nl:S.ns.length=S.m
 hn:S.hs.length<=100
section
variable{W:wg}
theorem yV.mv{A:pZ}{s:bO}(h:yV CH i k m τ H A s)(q:Mv i τ H τ' H'):yV CH i k m τ' H' A s:=by
 obtain⟨⟨w,v,u,t,p⟩,r,a,b,c,ty⟩:=h;have g:=q.keep _ _ w (.inr (by rw[b];rfl));have f:=q.keep _ _ v (.inr (by rw[c];rfl));have d:=q.keep _ _ u (.inr (by rw[ty];rfl));have j:=r;obtain⟨x,l,_⟩:=j;have n:=q.keep _ _ l (.inl a);exact⟨⟨g.1,f.1,d.1,t,p⟩,r.keep (λo e=>(q.keep _ _ e (.inl a)).1) q.tup,n.2.trans a,g.2.trans b,f.2.trans c,d.2.trans ty⟩
theorem NZ{r:Addr}{a:List Rw}(h:τ r=[0]/\fL H r m a)(q:Mv i τ H τ' H'):τ' r=[0]/\fL H' r m a:=by
 obtain⟨t,R⟩:=h;have b:=R;obtain⟨f,c,_⟩:=b;have d:=q.keep _ _ c (.inl t);exact⟨d.2.trans t,R.keep (λo e=>(q.keep _ _ e (.inl t)).1) q.tup⟩
theorem mC.mv(w:mC CW CH i τ H W S)(q:Mv i τ H τ' H')(u:sU τ' H'):mC CW CH i τ' H' W S:=by
 have g:=q.keep _ _ w.o (.inr (by rw[w.to];rfl));have f:=q.keep _ _ w.nb (.inr (by rw[w.tb];rfl));have e:=q.keep _ _ w.hl (.inr (by rw[w.tl];rfl));have d:=q.keep _ _ w.tn (.inr (by rw[w.tt];rfl));have c:=q.keep _ _ w.L (.inl w.tL);exact⟨u,w.i0,g.1,q.tup _ _ w.pg,c.1,f.1,e.1,d.1,g.2.trans w.to,f.2.trans w.tb,e.2.trans w.tl,d.2.trans w.tt,c.2.trans w.tL,w.rl,λk r s b a=>NZ (w.rs k r s b a) q,w.len,λk A s b a=>(w.hd k A s b a).mv q,w.ok,w.sl,w.nl,w.hn⟩
theorem mC.same(w:mC CW CH i τ H W S)(k:Same H H'):mC CW CH i τ H' W S:=w.mv (Mv.of_same k) (w.un.same k)
theorem mC.hand{s:bO}(w:mC CW CH i τ H W S)(h:S.hs[k]?=some s):∃A,W.hd[k]?=some A/\yV CH i k S.m τ H A s:=by
 have:k<W.hd.length:=by rw[w.len];exact(aak.mp h).1
 exact⟨W.hd[k],by simp[this],w.hd k _ _ (by simp[this]) h⟩
end
inductive qm(CW CH CN:Addr)(K:zzy)(vs:List V)(H:Hp)(Q:VK)(E:XK):Prop|m:∀(i:Nat)(τ:Tg)(W:wg)(S:eO)(h:Int),vs=[.ref W.o,.int h]->mC CW CH i τ H W S->(∀(k:Nat)(A:pZ)(s:bO),h=k->W.hd[k]?=some A->S.hs[k]?=some s->Q (.ref A.h) H)->(¬wC h S.hs.length->E (.ref CN) none H)->qm CW CH CN K vs H Q E
theorem Qz(F:fZ K "hand_of" "Works.hand_of" j6 f fd)(t:FnAt P w K mg base 2 "is_below" ["value","count"] (rT K))(c:dz K ao)(v:nR mg)(g:Xr K mg bI "NoHand"):bR P w K mg base (uG P w) 3 f fd ["self","hand"] (qm ao aq bI K):=by
 refine F.okX xg (λm H Q E h=>?_) (λu A d s H m Q E q h r=>?_)
 .obtain⟨i,l,W,S,h,rfl,_⟩:=h
  rfl
 .obtain⟨i,l,W,S,h,rfl,w,p,o⟩:=h
  refine⟨_,(aB (cj (fP (dH (bN t (q.mono (by decide)) (by rfl) (aj (pv 1) (aj (aV (aW (K:=K) rfl) (by rfl) v.dJ cG (aj (aZ (K:=K) rfl (pv 0) rfl) au)) au))))) (aJ (lN PySem.F.excBase_ValueError g.ex g.bd (by rfl) rfl rfl r (aj bT au))) bJ)
   (aJ (bw (aO (aL (K:=K) rfl) (aZ (K:=K) rfl (pv 0) rfl) (pv 1) (λ_ _=>rfl))))),?_⟩
  refine⟨_,Z,_,Z,W.o,ao,W.dx,_,_,Z,w.o,c.cls,c.mV,Z,W.hl,_,Z,.inl (bG.of w.hl),h,_,Z,_,Z,?_⟩;have e:(W.hd.map λa=>V.ref a.h).length=S.hs.length:=by rw[aae,w.len]
  by_cases b:wC h (W.hd.map λa=>V.ref a.h).length
  .rw[aaO b]
   refine cX ?_;obtain⟨n,rfl⟩:=ac3 b.1;have nl:n<S.hs.length:=by have:=b.2;rw[e] at this;lia
   have j:S.hs[n]?=some S.hs[n]:=by simp[nl]
   obtain⟨A,k,_⟩:=w.hand j;exact⟨_,Z,W.o,ao,W.dx,_,_,Z,w.o,c.cls,c.mV,Z,_,Z,_,_,_,_,Z,Z,bG.of w.hl,bL (by rw[aam,k];rfl),p n A _ rfl k j⟩
  .rw[aaQ b]
   refine fH ?_;rw[e] at b;exact⟨(by show 1<=sizeLine;decide),o b⟩
inductive zu(CW CH:Addr)(K:zzy)(vs:List V)(H:Hp)(Q:VK)(dX:XK):Prop|m:∀(i:Nat)(τ:Tg)(W:wg)(S:eO),vs=[.ref W.o]->mC CW CH i τ H W S->(∀l H',H l=none->H' l=some (.lst (S.ns.map V.int))->Same H H'->Q (.ref l) H')->zu CW CH K vs H Q dX
theorem Vh(F:fZ K "cells" "Works.cells" m_ f fd)(c:dz K ao)(j:nR mg):bR P w K mg base iB 1 f fd ["self"] (zu ao aq K):=by
 refine F.ok Ao (λe H Q E h=>?_) (λg A a s H e Q E m h=>?_)
 .obtain⟨i,d,W,S,rfl,_⟩:=h
  rfl
 .obtain⟨i,d,W,S,rfl,w,k⟩:=h
  refine⟨_,(aJ (bw (dB (cC (K:=K) rfl) (by rfl) j.iD fO (aj (aZ (K:=K) rfl (pv 0) rfl) au)))),?_⟩;exact⟨_,Z,W.o,ao,W.dx,_,_,Z,w.o,c.cls,c.jB,Z,W.nb,_,Z,.inl (bG.of w.nb),λl b=>k l _ b ak (aH b)⟩
inductive Dy(CW CH CN:Addr)(K:zzy)(vs:List V)(H:Hp)(Q:VK)(E:XK):Prop|m:∀(i:Nat)(τ:Tg)(W:wg)(S:eO)(h:Int),vs=[.ref W.o,.int h]->mC CW CH i τ H W S->(∀(k:Nat)(s:bO),h=k->S.hs[k]?=some s->Q (.str s.st) H)->(¬wC h S.hs.length->E (.ref CN) none H)->Dy CW CH CN K vs H Q E
theorem abI(F:fZ K "how" "Works.how" qC f fd)(l:mZ P w K mg base 3 ao "hand_of" ["self","hand"] (qm ao aq bI K))(t:dz K ao)(g:fY K aq):bR P w K mg base (uG P w) 4 f fd ["self","hand"] (Dy ao aq bI K):=by
 refine F.okX FQ (λj H Q E h=>?_) (λr A b s H j Q E o h p=>?_)
 .obtain⟨i,c,W,S,h,rfl,_⟩:=h
  rfl
 .obtain⟨i,c,W,S,h,rfl,w,n,m⟩:=h
  refine⟨_,(aJ (bw (aZ (K:=K) rfl (vq l t.cls rfl p (o.mono (by decide)) (pv 0) (aj (pv 1) au)) rfl))),?_⟩;refine⟨_,Z,W.o,W.dx,_,Z,w.o,Z,_,Z,i,c,W,S,h,Z,w,λk A s e q d=>?_,m⟩;have a:=w.hd k A s q d;exact⟨A.h,aq,A.hx,_,_,Z,a.c.h,g.cls,g.jO,Z,n k s e d⟩
def pY(S:eO):List Int:=(List.range S.hs.length).map λk:Nat=>((S.ts.count (k:Int):Nat):Int)
inductive lB(CW CH:Addr)(K:zzy)(vs:List V)(H:Hp)(Q:VK)(dX:XK):Prop|m:∀(i:Nat)(τ:Tg)(W:wg)(S:eO),vs=[.ref W.o]->mC CW CH i τ H W S->(∀l H',H l=none->H' l=some (.lst ((pY S).map V.int))->Same H H'->Q (.ref l) H')->lB CW CH K vs H Q dX
theorem QC(F:fZ K "counts" "Works.counts" lD f fd)(c:dz K ao)(l:nR mg):bR P w K mg base iB 1 f fd ["self"] (lB ao aq K):=by
 refine F.ok yM (λn H Q E h=>?_) (λq A d s H n Q E t h=>?_)
 .obtain⟨i,m,W,S,rfl,_⟩:=h
  rfl
 .obtain⟨i,m,W,S,rfl,w,k⟩:=h
  refine⟨_,(aJ (bw (dZ rfl (N:=["hand","self"]) (own:=["hand"]) (caps:=[0]) (bB.of (by kernel_rfl)) (cP (by rfl) l.dI (aj (aV (aW (K:=K) rfl) (by rfl) l.dJ cG (aj (aZ (K:=K) rfl (pv 0) rfl) au)) au)) (λ_ _ _ _=>(bK (i:=0) (show List.Nodup (["hand","self"]:List Str) by decide +kernel) rfl (Or.inl rfl))) (λ_ _ _ _=>dF) (λ_ _ _ _=>(xO (K:=K) rfl PySem.F.plainAttrs_list PySem.F.slot_list_count PySem.F.type_list_count (xQ (K:=K) rfl) (aZ (K:=K) rfl (pv 1) rfl) (aj (pv 0) au)))))),?_⟩;have e:(W.hd.map λa=>V.ref a.h).length=S.hs.length:=by rw[aae,w.len]
  refine⟨_,Z,W.o,ao,W.dx,_,_,Z,w.o,c.cls,c.mV,Z,W.hl,_,Z,.inl (bG.of w.hl),_,Z,(by rw[e];have:=w.hn;lia),(by rw[e];have:=w.hn;lia),λD g=>?_⟩;rw[e,acd];refine oE (λj:Nat=>some (.int ((S.ts.count (j:Int):Nat):Int))) g (by have:=w.hn;lia) (λj H1 G F u b r o=>?_) (λH1 b p=>?_)
  .refine⟨_,Z,W.o,ao,W.dx,_,_,Z,b _ _ w.o,c.cls,c.vB,Z,.inl ⟨Z,_,bG.of (b _ _ w.tn)⟩,_,Z,_,S.ts,_,Z,Z,bG.of (b _ _ w.tn),o _ H1 (Same.refl _) (by rw[Int.zero_add])⟩
  .refine k D H1 g ?_ b
   rw[p];unfold pY;rw[acV,List.filterMap_eq_map'];rfl
structure tE(C:List (List Nat))(τ:Tg)(H:Hp)(τ':Tg)(H':Hp):Prop where
 keep:∀x u,H x=some u->τ x∉C->H' x=some u/\τ' x=τ x
 tup:∀x xs,H x=some (.tup xs)->H' x=some (.tup xs)
theorem tE.of_same{C:List (List Nat)}(k:Same H H'):tE C τ H τ H':=⟨λx u e _=>⟨k _ _ e,Z⟩,k.tups⟩
theorem tE.claim{C:List (List Nat)}{t:List Nat}(k:Same H H')(a:H p=none):tE C τ H (aQ τ p t) H':=⟨λx u e _=>⟨k _ _ e,aU (aA e a)⟩,k.tups⟩
theorem tE.set{C:List (List Nat)}{x:Addr}{o u:HO}(b:τ x∈C)(a:H x=some o)(c:∀xs,o ≠ .tup xs):tE C τ H τ (upd H x u):=
 ⟨λy v e n=>⟨by rw[aF (λz:y=x=>n (by rw[z];exact b))];exact e,Z⟩,λy xs e=>by rw[aF (dD e a λz=>c xs z.symm)];exact e⟩
theorem tE.trans{C:List (List Nat)}{H1 H2:Hp}(a:tE C τ H τ1 H1)(b:tE C τ1 H1 τ2 H2):tE C τ H τ2 H2:=⟨λx u e n=>by
 obtain⟨f,t1⟩:=a.keep x u e n;obtain⟨d,c⟩:=b.keep x u f (by rw[t1];exact n);exact⟨d,by rw[c,t1]⟩,λx g e=>b.tup _ _ (a.tup _ _ e)⟩
theorem yV.mvT{C:List (List Nat)}{A:pZ}{s:bO}(h:yV CH i k m τ H A s)(q:tE C τ H τ' H')(d:[0]∉C)(u:[i,4,k]∉C)(t:[i,5,k]∉C)(p:[i,6,k]∉C):yV CH i k m τ' H' A s:=by
 obtain⟨⟨B,z,y,x,w⟩,r,a,b,c,ty⟩:=h;have j:=q.keep _ _ B (by rw[b];exact u);have g:=q.keep _ _ z (by rw[c];exact t);have f:=q.keep _ _ y (by rw[ty];exact p);have l:=r;obtain⟨D,n,_⟩:=l;have v:=q.keep _ _ n (by rw[a];exact d);exact⟨⟨j.1,g.1,f.1,x,w⟩,r.keep (λo e=>(q.keep _ _ e (by rw[a];exact d)).1) q.tup,v.2.trans a,j.2.trans b,g.2.trans c,f.2.trans ty⟩
theorem iG{C:List (List Nat)}{r:Addr}{a:List Rw}(h:τ r=[0]/\fL H r m a)(q:tE C τ H τ' H')(b:[0]∉C):τ' r=[0]/\fL H' r m a:=by
 obtain⟨t,R⟩:=h;have c:=R;obtain⟨g,d,_⟩:=c;have f:=q.keep _ _ d (by rw[t];exact b);exact⟨f.2.trans t,R.keep (λo e=>(q.keep _ _ e (by rw[t];exact b)).1) q.tup⟩
inductive wU(CW CH CN CO:Addr)(K:zzy)(vs:List V)(H:Hp)(Q:VK)(E:XK):Prop|m:∀(i:Nat)(τ:Tg)(W:wg)(S:eO)(h:Int),vs=[.ref W.o,.int h]->mC CW CH i τ H W S->S.ts.length<=10000->(∀(k:Nat)(s:bO)(r:Rw)(t:Addr)(H':Hp),h=k->S.hs[k]?=some s->s.st = "waits" -> s.rws[s.pos]?=some r->touch r=true->H t=none->H' t=some (.tup (z_ S.ns s.bs r))->mC CW CH i τ H' W (cA S k)->jH i τ H H'->Q (.ref t) H')->(¬wC h S.hs.length->E (.ref CN) none H)->(∀(k:Nat)(s:bO),h=k->S.hs[k]?=some s->s.st ≠ "waits" -> E (.ref CO) none H)->wU CW CH CN CO K vs H Q E
theorem SJ{s:bO}{r:Rw}(a:S.hs[k]?=some s)(b:s.rws[s.pos]?=some r):cA S k={S with ns:=dU S.ns s.bs r,hs:=S.hs.set k (lU S.ns s r),ts:=S.ts++[(k:Int)]}:=by
 unfold cA;simp only[a,b]
theorem Ma(ns bs:List Int)(r:Rw):(dU ns bs r).length=ns.length:=by cases r<;>simp[dU]
theorem mC.turned{W:wg}{A:pZ}{s:bO}{r:Rw}(w:mC CW CH i τ H W S)(I:W.hd[k]?=some A)(v:S.hs[k]?=some s)(M:s.rws[s.pos]?=some r)(B:∀x u,H x=some u->x≠W.nb->x≠A.b->x≠A.h->x≠A.sy->x≠W.tn->H' x=some u)(c:pJ CH H' A (lU S.ns s r))(p:H' W.nb=some (.lst ((dU S.ns s.bs r).map V.int)))(l:H' W.tn=some (.lst ((S.ts++[(k:Int)]).map V.int))):mC CW CH i τ H' W (cA S k)/\jH i τ H H':=by
 have a:=w.hd k A s I v;have tup:∀x C,H x=some (.tup C)->H' x=some (.tup C):=λx C e=>B _ _ e (dD e w.nb (by intro z;cases z)) (dD e a.c.b (by intro z;cases z)) (dD e a.c.h (by intro z;cases z)) (dD e a.c.y (by intro z;cases z)) (dD e w.tn (by intro z;cases z))
 have E:jH i τ H H':=by
  refine⟨λx u e n=>?_,tup,λx e=>?_⟩
  .have ne:∀(y:Addr)(t:List Nat),τ y=i::t->x≠y:=λy t ty z=>n (by rw[z,ty];rfl)
   exact B _ _ e (ne _ _ w.tb) (ne _ _ a.tb) (ne _ _ a.th) (ne _ _ a.ty) (ne _ _ w.tt)
  .cases q:H x with
   | none=>rfl
   | some u=>
     have no:∀y o,H' y=some o->x≠y:=λy o h z=>by rw[z,h] at e;cases e
     rw[B _ _ q (no _ _ p) (no _ _ c.b) (no _ _ c.h) (no _ _ c.y) (no _ _ l)] at e;cases e
 refine⟨?_,E⟩
 have q:tE [[i,1],[i,5,k],[i,4,k],[i,6,k],[i,3]] τ H τ H':=by
  refine⟨λx u e n=>⟨?_,Z⟩,tup⟩;have ne:∀(y:Addr)(t:List Nat),τ y=t->t∈[[i,1],[i,5,k],[i,4,k],[i,6,k],[i,3]]->x≠y:=λy t ty K z=>n (by rw[z,ty];exact K);exact B _ _ e (ne _ _ w.tb (by simp)) (ne _ _ a.tb (by simp)) (ne _ _ a.th (by simp)) (ne _ _ a.ty (by simp)) (ne _ _ w.tt (by simp))
 have J:=w.i0;have g:[0]∉[[i,1],[i,5,k],[i,4,k],[i,6,k],[i,3]]:=by simp
 rw[SJ v M];have L:k<S.hs.length:=(aak.mp v).1
 have get:∀(j:Nat)(b:bO),(S.hs.set k (lU S.ns s r))[j]?=some b->(j=k/\b=lU S.ns s r)\/(j≠k/\S.hs[j]?=some b):=λj b e=>by
  rw[List.getElem?_set] at e
  by_cases z:k=j
  .subst z
   simp[L] at e;exact .inl ⟨Z,e.symm⟩
  .rw[ac9 z] at e
   exact .inr ⟨λy=>z y.symm,e⟩
 have G:(lU S.ns s r).rws=s.rws:=vJ _ _;have mem:∀b∈S.hs.set k (lU S.ns s r),b=lU S.ns s r\/b∈S.hs:=λb m=>(List.mem_or_eq_of_mem_set m).symm;refine⟨E.un w.un,J,(q.keep _ _ w.o (by rw[w.to];simp)).1,tup _ _ w.pg,(q.keep _ _ w.L (by rw[w.tL];exact g)).1,p,(q.keep _ _ w.hl (by rw[w.tl];simp)).1,l,w.to,w.tb,w.tl,w.tt,w.tL,?_,?_,?_,?_,?_,?_,?_,?_⟩
 .simp[w.rl]
 .intro j F b f d
  rcases get j b d with ⟨rfl,rfl⟩|⟨_,d⟩
  .rw[G]
   exact iG (w.rs j F s f v) q g
  .exact iG (w.rs j F b f d) q g
 .simp[w.len]
 .intro j N b f d
  rcases get j b d with ⟨rfl,rfl⟩|⟨D,d⟩
  .rw[I] at f
   cases f;refine⟨c,?_,a.tr,a.th,a.tb,a.ty⟩;rw[G];exact(iG ⟨a.tr,a.r⟩ q g).2
  .exact(w.hd j N b f d).mvT q g (by simp[D]) (by simp[D]) (by simp[D])
 .intro b m
  rcases mem b m with rfl|m
  .exact Ln _ _
  .exact w.ok b m
 .intro b m
  simp only[abf,acT];rcases mem b m with rfl|m
  .have:=Lk 60 {s with pos:=s.pos+1,bs:=ux S.ns s.bs r}
   have:=w.sl s (aaK v);show (led 60 _).sy.length<=_;simp only at *;lia
  .have:=w.sl b m
   lia
 .show (dU S.ns s.bs r).length=S.m
  rw[Ma,w.nl]
 .simp[w.hn]
theorem YB(F:fZ K "turn" "Works.turn" o9 f fd)(kj:mZ P w K mg base 3 ao "hand_of" ["self","hand"] (qm ao aq bI K))(yg:MethAt P w K mg base 4 ao "touch_by" ["self","one"] (rQ ao aq K))(mj:MethAt P w K mg base 6 aq "lead_on" ["self"] (Ae aq K))(I:dz K ao)(B:fY K aq)(kh:Xr K mg cY "Over"):bR P w K mg base (uG P w) 7 f fd ["self","hand"] (wU ao aq bI cY K):=by
 refine F.okX m5 (λvs H Q E h=>?_) (λa1 A O s H vs Q E hr h hR=>?_)
 .obtain⟨i,τ,W,S,h,rfl,_⟩:=h
  rfl
 .obtain⟨i,τ,W,S,h,rfl,w,tl,k1,k2,k3⟩:=h
  refine⟨_,(aB (bH (i:=2) m5.nd rfl (Or.inl rfl) (vq kj I.cls rfl hR (hr.mono (by decide)) (pv 0) (aj (pv 1) au)))
   (aB (cj (bD pP (aZ (K:=K) rfl (pv 2) rfl) bT (bA _)) (aJ (lN PySem.F.excBase_ValueError kh.ex kh.bd (by rfl) rfl rfl hR (aj bT au))) bJ)
   (aB (bH (i:=3) m5.nd rfl (Or.inl rfl) (cL yg I.cls (hr.mono (by decide)) (pv 0) (aj (pv 2) au)))
   (aB (Bl (K:=K) rfl (pv 2) aG GD)
   (aB (cN (cu mj B.cls (hr.mono (by decide)) (pv 2)))
   (aB (cN (dO (K:=K) rfl (aZ (K:=K) rfl (pv 0) rfl) (aj (pv 1) au)))
   (aJ (bw (pv 3))))))))),?_⟩
  refine⟨_,Z,W.o,W.dx,_,Z,w.o,Z,_,Z,i,τ,W,S,h,Z,w,λk A s e eA l=>?_,k2⟩;have a:=w.hd k A s eA l;refine⟨_,Z,A.h,aq,A.hx,_,_,Z,a.c.h,B.cls,B.jO,Z,Z,_,Z,?_⟩
  by_cases m:s.st = "waits"
  rotate_left
  .refine cO (λ_=>?_) (λz=>ac' (by simp[m]) z)
   exact⟨(by show 1<=sizeLine;decide),k3 k s e l m⟩
  refine vK (by rw[m]) ?_;obtain⟨r,er,tr⟩:=w.ok s (aaK l) m;have g:W.nb≠A.b:=fj w.tb a.tb (by simp);have d:W.nb≠A.sy:=fj w.tb a.ty (by simp);refine⟨_,Z,W.o,W.dx,_,Z,w.o,Z,_,Z,W.o,W.dx,W.pg,W.nb,W.hl,W.tn,A,s,S.m,S.ns,r,Z,w.o,w.nb,w.nl,a.c,a.r,er,tr,g,d,λt H1 tf t1 y Y N=>?_⟩;refine⟨_,Z,A.h,aq,A.hx,_,_,Z,y.h,B.cls,B.vD,Z,_,_,Z,Z,A.hx,_,y.h,(by show 5<1000;decide),?_⟩;rw[Bh];have G:=y.tQ (s.pos+1) s.st;have j:KH A H1 (upd H1 A.h (.ins aq A.hx (hF A.r ((s.pos+1:Nat):Int) A.b A.sy s.st))):=KH.tQ;have t2:=y.tup j _ _ t1;dsimp only;rw[show ((s.pos:Nat):Int)+1=((s.pos+1:Nat):Int) by lia];generalize (upd H1 A.h (.ins aq A.hx (hF A.r ((s.pos+1:Nat):Int) A.b A.sy s.st)))=H2 at G j t2 ⊢;have c:A.r≠A.b:=fj a.tr a.tb (by intro z;cases z);have n:A.r≠A.sy:=fj a.tr a.ty (by intro z;cases z);have T:A.r≠A.h:=fj a.tr a.th (by intro z;cases z);have R:A.r≠W.nb:=fj a.tr w.tb (by intro z;cases z);have Qi:∀x L,H x=some (.tup L)->H2 x=some (.tup L):=λx L q=>y.tup j _ _ (N _ _ q (dD q w.nb (by intro z;cases z)) (dD q a.c.b (by intro z;cases z)));have R2:fL H2 A.r S.m s.rws:=a.r.keep (λo q=>j _ _ (N _ _ q R c) T c n) Qi;have sl:=w.sl s (aaK l);refine⟨_,Z,A.h,A.hx,_,Z,G.h,Z,A,_,S.m,Z,G,R2,c,n,by show s.sy.length<_;lia,λJ v M=>?_⟩;have k13:∀x u,H x=some u->x≠W.nb->x≠A.b->x≠A.h->x≠A.sy->J x=some u:=λx u q n1 p D C=>M _ _ (j _ _ (N _ _ q n1 p) D p C) D p C;have o3:=k13 _ _ w.o (fj w.to w.tb (by simp)) (fj w.to a.tb (by simp)) (fj w.to a.th (by simp)) (fj w.to a.ty (by simp));have b:=k13 _ _ w.tn (fj w.tt w.tb (by simp)) (fj w.tt a.tb (by simp)) (fj w.tt a.th (by simp)) (fj w.tt a.ty (by simp));have X:=M _ _ (j _ _ Y (fj w.tb a.th (by simp)) g d) (fj w.tb a.th (by simp)) g d;have t3:=G.tup M _ _ t2;refine⟨_,Z,W.o,ao,W.dx,_,_,Z,o3,I.cls,I.vB,Z,.inl ⟨Z,_,bG.of b⟩,_,Z,_,_,_,Z,Z,b,(by rw[aae,sizeLine_eq];lia),?_⟩;have a0:∀x u,H x=some u->x≠W.nb->x≠A.b->x≠A.h->x≠A.sy->x≠W.tn->(upd J W.tn (.lst (S.ts.map V.int++[V.int h]))) x=some u:=λx u q n1 p D C n5=>by rw[aF n5];exact k13 x u q n1 p D C
  have U:W.nb≠W.tn:=fj w.tb w.tt (by simp);have c4:pJ aq (upd J W.tn (.lst (S.ts.map V.int++[V.int h]))) A (lU S.ns s r):=⟨by rw[aF (fj a.th w.tt (by simp))];exact v.h,by rw[aF (fj a.tb w.tt (by simp))];exact v.b,by rw[aF (fj a.ty w.tt (by simp))];exact v.y,v.QJ,v.bl⟩;obtain⟨w4,st⟩:=w.turned (H':=upd J W.tn (.lst (S.ts.map V.int++[V.int h]))) eA l er a0 c4 (by rw[aF U];exact X) (by rw[ak,ab1,e];rfl);refine⟨_,Z,k1 k s r t _ e l m er tr tf ?_ w4 st⟩;rw[aF (dD t3 b (by intro z;cases z))];exact t3
structure Bs(H0:Hp)(τ0:Tg)(o:Addr)(τ:Tg)(H:Hp):Prop where
 un:sU τ H
 kp:Kp o H0 H
 tg:∀x u,H0 x=some u->x≠o->τ x=τ0 x
theorem Bs.same{H0 H H':Hp}{a τ:Tg}{o:Addr}(b:Bs H0 a o τ H)(k:Same H H'):Bs H0 a o τ H':=⟨b.un.same k,b.kp.trans (Kp.of_same k),b.tg⟩
theorem Bs.claim{H0 H H':Hp}{a τ:Tg}{o p:Addr}{t:List Nat}(b:Bs H0 a o τ H)(k:Same H H')(d:H p=none)(c:∃u,H' p=some u):Bs H0 a o (aQ τ p t) H':=
 ⟨b.un.claim k c,b.kp.trans (Kp.of_same k),λx u e n=>by rw[aU (aA (b.kp _ _ e n) d)];exact b.tg x u e n⟩
theorem Bs.set{H0:Hp}{o x:Addr}{v:HO}(b:Bs H0 τ0 o τ H)(a:x=o\/H0 x=none):Bs H0 τ0 o τ (upd H x v):=
 ⟨b.un.dom (λy e=>by
   by_cases z:y=x
   .rw[z,ak] at e;cases e
   .rw[aF z] at e;exact e),λy u e n=>by
   have z:y≠x:=by
    rcases a with rfl|a
    .exact n
    .exact aA e a
   rw[aF z];exact b.kp _ _ e n,b.tg⟩
theorem Bs.fresh{H0:Hp}{o:Addr}(b:Bs H0 τ0 o τ H)(a:H p=none)(n:p≠o):H0 p=none:=zA b.kp n a
inductive mH(CW CH CN:Addr)(K:zzy)(vs:List V)(H:Hp)(Q:VK)(E:XK):Prop|m:∀(i:Nat)(τ:Tg)(o dx p L0:Addr)(Yc:List Addr)(m:Nat)(cv:V)(ns:List Int)(rws:List (List Rw)),vs=[.ref o,.ref p,cv]->H o=some (.ins CW dx [])->H p=some (.tup [.int m,.ref L0])->H L0=some (.lst (Yc.map V.ref))->Yc.length=rws.length->(∀(k:Nat)(r:Addr)(x:List Rw),Yc[k]?=some r->rws[k]?=some x->fL H r m x)->rws.length<=100->m<=100->sU τ H->i≠0->ns.length<=100->((cv=.non/\ns=List.replicate m 0) \/ ∃cl,cv=.ref cl/\H cl=some (.lst (ns.map V.int)))->(qO m ns -> ∀(τ':Tg)(W:wg)(H':Hp),W.o=o->mC CW CH i τ' H' W (jY m ns rws)->(∀x u,H x=some u->x≠o->τ' x=τ x)->Kp o H H'->Q .non H')->(¬qO m ns -> ∀H',Kp o H H'->E (.ref CN) none H')->mH CW CH CN K vs H Q E
theorem lV{α:Type}{l:List α}{x y:α}(h:(l++[x])[k]?=some y):l[k]?=some y\/(k=l.length/\y=x):=by
 by_cases e:k<l.length
 .rw[abU e] at h
  exact .inl h
 .rw[abj (by lia)] at h
  have lt:=(aak.mp h).1;simp at lt;have:k=l.length:=by lia
  subst this;simp at h;exact .inr ⟨Z,h.symm⟩
theorem U4(F:ZS K "__init__" "Works.__init__" bZ [.none] f fd)(aN:dz K ao)(aM:fY K aq)(yW:WX P w K mg base 3 "check_numbers" ["cells","count"] (oR bW K))(Mu:pI P w K mg base 1 aq "Hand" ["self","rows"] [] (uX aq K))(mj:MethAt P w K mg base 6 aq "lead_on" ["self"] (Ae aq K))(Bt:nR mg):bR P w K mg base (uG P w) 7 f fd ["self","program","cells"] (mH ao aq bW K):=by
 refine F.okX m6 (λvs H Q E h=>?_) (λl9 A h8 s H vs Q E hr h hR=>?_)
 .obtain⟨i,τ,o,I,p,L0,Yc,m,cv,ns,c,rfl,_⟩:=h
  rfl
 .obtain⟨i,τ,o,I,p,L0,Yc,m,cv,ns,c,rfl,ho,hp,hL,lr,l5,rl,ml,un,i0,nl,j3,k1,k2⟩:=h
  refine⟨_,(aB (cj (bD Gq (pv 2) j8 (bA _)) (aJ (mL (i:=2) rfl m6.nd rfl (Or.inl rfl) (N:=["cell"]) (own:=["cell"]) (caps:=[]) (bB.of (by kernel_rfl)) (cP (by rfl) Bt.dI (aj (aO (aX (K:=K) rfl) (pv 1) aG (λ_ _=>rfl)) au)) (λ_ _ _ _=>(bK (i:=0) (show List.Nodup (["cell"]:List Str) by decide +kernel) rfl (Or.inl rfl))) (λ_ _ _ _=>dF) (λ_ _ _ _=>aG))) bJ)
   (aB (cN (abu yW rfl hR (hr.mono (by decide)) (by rfl) (aj (pv 2) (aj (aO (aX (K:=K) rfl) (pv 1) aG (λ_ _=>rfl)) au))))
   (aB (cT (K:=K) rfl (pv 0) (dY (aj (aO (aX (K:=K) rfl) (pv 1) aG (λ_ _=>rfl)) (aj (dZ rfl (N:=["rows"]) (own:=["rows"]) (caps:=[]) (bB.of (by kernel_rfl)) (dg (K:=K) rfl (aO (aX (K:=K) rfl) (pv 1) aG (λ_ _=>rfl))) (λ_ _ _ _=>(bK (i:=0) (show List.Nodup (["rows"]:List Str) by decide +kernel) rfl (Or.inl rfl))) (λ_ _ _ _=>dF) (λ_ _ _ _=>(dB (cC (K:=K) rfl) (by rfl) Bt.iD fO (aj (pv 0) au)))) au))) rfl)
   (aB (cT (K:=K) rfl (pv 0) (dB (cC (K:=K) rfl) (by rfl) Bt.iD fO (aj (pv 2) au)) rfl)
   (aB (cT (K:=K) rfl (pv 0) (dZ rfl (N:=["rows"]) (own:=["rows"]) (caps:=[]) (bB.of (by kernel_rfl)) (dg (K:=K) rfl (aO (aX (K:=K) rfl) (aZ (K:=K) rfl (pv 0) rfl) aG (λ_ _=>rfl))) (λ_ _ _ _=>(bK (i:=0) (show List.Nodup (["rows"]:List Str) by decide +kernel) rfl (Or.inl rfl))) (λ_ _ _ _=>dF) (λ_ _ _ _=>(jT Mu (hr.mono (by decide)) (by rfl) (aj (pv 0) au)))) rfl)
   (aB (cT (K:=K) rfl (pv 0) (cJ au) rfl)
   (aJ (iQ PassesOwn.leaving rfl (dg (K:=K) rfl (aZ (K:=K) rfl (pv 0) rfl)) (bK (i:=3) m6.nd rfl (Or.inl rfl))
   (aJ (cN (cu mj aM.cls (hr.mono (by decide)) (pv 3)))))))))))),?_⟩
  refine u_ (λY H1=>∃cl:Addr,Y=[some (.ref o),some (.ref p),some (.ref cl),none]/\H1 cl=some (.lst (ns.map V.int))/\Same H H1) (λD' f5 l8=>?_) ?_
  .refine⟨_,Z,Z,_,Z,?_⟩
   rcases j3 with ⟨rfl,rfl⟩|⟨cl,rfl,c1⟩
   .refine fH ?_
    refine⟨_,Z,_,_,_,_,Z,Z,cD.of hp,Z,_,Z,by lia,by lia,λD hD=>?_⟩;rw[acd];refine oE (λ_=>some (.int 0)) hD (by lia) (λi H1 G F hi s1 kG kF=>kF _ H1 (Same.refl _) rfl) (λH1 s1 e1=>?_);rw[G3] at e1;exact f5 _ _ ⟨D,Z,e1,s1⟩
   .refine cX ?_
    exact f5 _ _ ⟨cl,Z,c1,Same.refl _⟩
  rintro Y H1 ⟨cl,rfl,c1,s1⟩;have j0:=s1 _ _ hp;refine u0 (λR g=>?_);refine⟨_,Z,_,Z,_,_,_,_,Z,Z,cD.of j0,Z,cl,m,ns,Z,c1,nl,λgood H2 s2=>?_,λbad H2 s2=>k2 bad H2 (Kp.of_same (s1.trans s2))⟩;refine g _ _ ?_;have a0:=s1.trans s2;have a9:=a0 _ _ ho;have e9:=a0 _ _ hp;have f4:=a0 _ _ hL;have f9:=s2 _ _ c1;have l6:∀(k:Nat)(r:Addr)(x:List Rw),Yc[k]?=some r->c[k]?=some x->fL H2 r m x:=λk r x a b=>(l5 k r x a b).same a0;have B2:Bs H τ o (aQ τ o [i,0]) H2:=⟨λx e=>by rw[aU (aA a9 e).symm];exact un.same a0 x e,Kp.of_same a0,λx u e n=>aU n⟩;have to2:aQ τ o [i,0] o=[i,0]:=bF;generalize aQ τ o [i,0]=h0 at B2 to2;refine u0 (λR g=>?_);refine⟨_,Z,_,_,_,_,Z,Z,cD.of e9,Z,_,Z,_,_,_,_,Z,Z,cD.of e9,Z,L0,Z,⟨_,bG.of f4⟩,λL b0=>?_⟩;have sL:=aH (o:=HO.lst []) b0;have i6:L≠o:=(aA a9 b0).symm;refine jE (K:=K) (xs:=Yc.map V.ref) (λj Y l=>∃(v:Option V) (d:Tg) (rs:List Addr),Y=[v]/\rs.length=j/\Same H2 l/\l L=some (.lst (rs.map V.ref))/\Bs H τ o d l/\d o=[i,0]/\d L=[0] /\ ∀(k:Nat)(r:Addr)(x:List Rw),rs[k]?=some r->c[k]?=some x->r≠L/\d r=[0]/\fL l r m x) ?_ ?_ ?_ ?_
  .exact⟨none,aQ h0 L [0],[],Z,Z,sL,ak,B2.claim sL b0 ⟨_,ak⟩,by rw[aU i6.symm];exact to2,bF,λk r x h=>by simp at h⟩
  .rintro j Y l X ⟨v,d,rs,rfl,_,sc,_⟩
   exact bG.of (sc _ _ f4)
  .rintro j x Y l X ⟨v,d,rs,rfl,lj,sc,d1,Bc,h4,h5,hc⟩
   rw[aam] at X
   obtain⟨r0,f6,rfl⟩:∃r0,Yc[j]?=some r0/\x=.ref r0:=by
    cases e:Yc[j]? with
    | none=>rw[e] at X;cases X
    | some r0=>rw[e] at X;exact⟨r0,Z,(abe X).symm⟩
   have jl:j<c.length:=by rw[←lr];exact(aak.mp f6).1
   have ex:c[j]?=some c[j]:=by simp[jl]
   have rr:=l6 j r0 _ f6 ex;obtain⟨ts,a7,k5,rq,h6⟩:=rr;dsimp only[bU,yK];rw[ac_ rfl];refine⟨_,Z,r0,_,Z,.inl (bG.of (sc _ _ a7)),λr a8=>?_⟩;have sr:=aH (o:=HO.lst ts) a8;have c7:r≠L:=(aA d1 a8).symm;have i1:r≠o:=(aA (sc _ _ a9) a8).symm;have k0:H L=none:=a0.free b0;refine⟨rs.map V.ref,sr _ _ d1,(by rw[aae,sizeLine_eq];lia),some (.ref r0),aQ d r [0],rs++[r],Z,by simp[lj],λy u e=>?_,by rw[ak];simp,(Bc.claim sr a8 ⟨_,ak⟩).set (.inr k0),?_,?_,?_⟩
   .rw[aF (aA e b0)]
    exact sr _ _ (sc _ _ e)
   .rw[aU i1.symm];exact h4
   .rw[aU c7.symm];exact h5
   .intro k r' x' J M
    have c3:∀y ys,l y=some (.tup ys)->(upd (upd l r (.lst ts)) L (.lst (rs.map V.ref++[V.ref r]))) y=some (.tup ys):=λy ys e=>by
     rw[aF (dD e d1 (by intro z;cases z))];exact sr _ _ e
    rcases lV J with J|⟨e1,rfl⟩
    .obtain⟨n1,t1,R1⟩:=hc k r' x' J M
     have rr:=R1;obtain⟨l7,i9,_⟩:=rr;have n2:r'≠r:=aA i9 a8;refine⟨n1,by rw[aU n2];exact t1,R1.keep (λu e=>?_) c3⟩;rw[aF n1];exact sr _ _ e
    .rw[e1,lj,ex] at M
     cases M;refine⟨c7,bF,ts,by rw[aF c7,ak],?_,rq,h6⟩;exact k5.keep (λy ys e=>c3 _ _ (sc _ _ e)) _ (Jz _)
  rintro Y H3 ⟨v,U,rs,rfl,b4,Z8,k4,B3,to3,c6,e7⟩;rw[aae] at b4;have d0:=Z8 _ _ a9;refine⟨(by show 2<=sizeLine;decide),λB e8=>?_⟩;have a6:=aH (o:=HO.tup [V.int m,V.ref L]) e8;refine⟨_,Z,o,ao,I,_,Z,a6 _ _ d0,aN.cls,aN.sI,(by show 0<1000;decide),?_⟩;refine g _ _ ?_;have l0:B≠o:=(aA d0 e8).symm;have b9:(upd (upd H3 B (.tup [V.int m,V.ref L])) o (.ins ao I (cI "program" (.ref B) []))) o=some (.ins ao I [("program",.ref B)]):=ak;have g1:(upd (upd H3 B (.tup [V.int m,V.ref L])) o (.ins ao I (cI "program" (.ref B) []))) B=some (.tup [V.int m,V.ref L]):=by rw[aF l0,ak]
  have q4:tE [[i,0]] U H3 U (upd (upd H3 B (.tup [V.int m,V.ref L])) o (.ins ao I (cI "program" (.ref B) []))):=(tE.of_same a6).trans (tE.set (by rw[to3];simp) (a6 _ _ d0) (by intro xs z;cases z));have B4:Bs H τ o U (upd (upd H3 B (.tup [V.int m,V.ref L])) o (.ins ao I (cI "program" (.ref B) []))):=(B3.same a6).set (.inl rfl);have e4:Kp o H3 (upd (upd H3 B (.tup [V.int m,V.ref L])) o (.ins ao I (cI "program" (.ref B) []))):=(Kp.of_same a6).trans Kp.set;generalize (upd (upd H3 B (.tup [V.int m,V.ref L])) o (.ins ao I (cI "program" (.ref B) [])))=H4 at b9 g1 q4 B4 e4 ⊢;have k3:=(q4.keep _ _ k4 (by rw[c6];simp)).1;have i8:∀(k:Nat)(r:Addr)(x:List Rw),rs[k]?=some r->c[k]?=some x->U r=[0]/\fL H4 r m x:=λk r x J M=>iG ⟨(e7 k r x J M).2.1,(e7 k r x J M).2.2⟩ q4 (by simp);have k8:cl≠o:=dD f9 a9 (by intro z;cases z);have l1:=e4 _ _ (Z8 _ _ f9) k8;refine u0 (λR g=>?_);refine⟨_,Z,cl,_,Z,.inl (bG.of l1),λC c0=>?_⟩;have b2:=aH (o:=HO.lst (ns.map V.int)) c0;refine⟨_,Z,o,ao,I,_,Z,b2 _ _ b9,aN.cls,aN.jB,(by show 1<1000;decide),?_⟩;refine g _ _ ?_;have d2:C≠o:=(aA b9 c0).symm;have W8:(upd (upd H4 C (.lst (ns.map V.int))) o (.ins ao I (cI "numbers" (.ref C) [("program",.ref B)]))) o=some (.ins ao I [("program",.ref B),("numbers",.ref C)]):=ak;have g0:(upd (upd H4 C (.lst (ns.map V.int))) o (.ins ao I (cI "numbers" (.ref C) [("program",.ref B)]))) C=some (.lst (ns.map V.int)):=by rw[aF d2,ak]
  have q5:tE [[i,0]] U H4 (aQ U C [i,1]) (upd (upd H4 C (.lst (ns.map V.int))) o (.ins ao I (cI "numbers" (.ref C) [("program",.ref B)]))):=(tE.claim b2 c0).trans (tE.set (by rw[aU d2.symm,to3];simp) (b2 _ _ b9) (by intro xs z;cases z));have B5:Bs H τ o (aQ U C [i,1]) (upd (upd H4 C (.lst (ns.map V.int))) o (.ins ao I (cI "numbers" (.ref C) [("program",.ref B)]))):=(B4.claim b2 c0 ⟨_,ak⟩).set (.inl rfl);have d5:aQ U C [i,1] o=[i,0]:=by rw[aU d2.symm];exact to3
  have c5:aQ U C [i,1] C=[i,1]:=bF;generalize (upd (upd H4 C (.lst (ns.map V.int))) o (.ins ao I (cI "numbers" (.ref C) [("program",.ref B)])))=H5 at W8 g0 q5 B5 ⊢;generalize aQ U C [i,1]=a1 at q5 B5 d5 c5;have a4:=q5.keep _ _ k3 (by rw[c6];simp);have e6:∀(k:Nat)(r:Addr)(x:List Rw),rs[k]?=some r->c[k]?=some x->a1 r=[0]/\fL H5 r m x:=λk r x J M=>iG (i8 k r x J M) q5 (by simp);have g2:=q5.tup _ _ g1;have e0:a1 L=[0]:=a4.2.trans c6;have a4:=a4.1;refine u0 (λR g=>?_);refine⟨_,Z,o,ao,I,_,_,Z,W8,aN.cls,aN.sI,Z,_,_,_,_,Z,Z,cD.of g2,Z,L,Z,⟨_,bG.of a4⟩,λO a3=>?_⟩;have shl:=aH (o:=HO.lst []) a3;have k9:O≠o:=(aA W8 a3).symm;refine jE (K:=K) (xs:=rs.map V.ref) (λj Y l=>∃(v:Option V) (d:Tg) (hd:List pZ),Y=[v]/\hd.length=j/\Same H5 l/\l O=some (.lst (hd.map λa=> .ref a.h))/\Bs H τ o d l/\(∀x u,H5 x=some u->d x=a1 x)/\d O=[i,2] /\ ∀(k:Nat)(A:pZ)(x:List Rw),hd[k]?=some A->c[k]?=some x->yV aq i k m d l A (new x)/\H A.h=none/\H A.b=none/\H A.sy=none) ?_ ?_ ?_ ?_
  .exact⟨none,aQ a1 O [i,2],[],Z,Z,shl,ak,B5.claim shl a3 ⟨_,ak⟩,λx u e=>aU (aA e a3),bF,λk A x h=>by simp at h⟩
  .rintro j Y l X ⟨v,d,hd,rfl,_,sc,_⟩
   exact bG.of (sc _ _ a4)
  .rintro j x Y l X ⟨v,d,hd,rfl,lj,sc,a2,Bc,Xu,d6,hc⟩
   rw[aam] at X
   obtain⟨r,er,rfl⟩:∃r,rs[j]?=some r/\x=.ref r:=by
    cases e:rs[j]? with
    | none=>rw[e] at X;cases X
    | some r0=>rw[e] at X;exact⟨r0,Z,(abe X).symm⟩
   have jl:j<c.length:=by rw[←lr,←b4];exact(aak.mp er).1
   have ex:c[j]?=some c[j]:=by simp[jl]
   obtain⟨tr,R⟩:=e6 j r _ er ex;have rr:=R;obtain⟨ts,a7,_⟩:=rr;dsimp only[bU,yK];rw[ac_ rfl];refine⟨_,Z,λh hx hn i7 i3=>?_⟩;have j1:(upd l hx (.own h)) h=none:=by rw[aF i3.symm];exact hn
   have sm:Same l (upd (upd l hx (.own h)) h (.ins aq hx [])):=(aH i7).trans (aH j1);refine⟨h,r,hx,Z,ak,λb sy H7 hb e5 f7 h7 b7 e2 k7=>⟨Z,?_⟩⟩;have S7:Same l H7:=λy u e=>k7 _ _ (sm _ _ e) (aA e hn);have fb:l b=none:=sm.free hb;have fy:l sy=none:=sm.free e5;have i4:O≠h:=aA a2 hn;have i5:O≠b:=aA a2 fb;have h9:O≠sy:=aA a2 fy;have YX:h≠b:=aA ak hb;have i2:h≠sy:=aA ak e5;have j2:H O=none:=B5.fresh a3 k9;have sH:Same l l:=Same.refl _;have T:∀x u,l x=some u->aQ (aQ (aQ d h [i,4,j]) b [i,5,j]) sy [i,6,j] x=d x:=λy u e=>by rw[aU (aA e fy),aU (aA e fb),aU (aA e hn)]
   have B7:Bs H τ o (aQ (aQ (aQ d h [i,4,j]) b [i,5,j]) sy [i,6,j]) H7:=by
    refine⟨λy e=>?_,Bc.kp.trans (Kp.of_same S7),λy u e n=>?_⟩
    .have n1:y≠h:=λz=>by rw[z,h7] at e;cases e
     have n2:y≠b:=λz=>by rw[z,b7] at e;cases e
     have n3:y≠sy:=λz=>by rw[z,e2] at e;cases e
     rw[aU n3,aU n2,aU n1];exact Bc.un y (S7.free e)
    .rw[T y u (Bc.kp _ _ e n)]
     exact Bc.tg y u e n
   have q7:tE [[i,2]] d l (aQ (aQ (aQ d h [i,4,j]) b [i,5,j]) sy [i,6,j]) (upd H7 O (.lst ((hd.map λa=>V.ref a.h)++[V.ref h]))):=by
    refine⟨λy u e n=>⟨?_,T y u e⟩,λy ys e=>?_⟩
    .rw[aF (λz:y=O=>n (by rw[z,d6];simp))]
     exact S7 _ _ e
    .rw[aF (dD e a2 (by intro z;cases z))]
     exact S7 _ _ e
   have Th:aQ (aQ (aQ d h [i,4,j]) b [i,5,j]) sy [i,6,j] h=[i,4,j]:=by rw[aU i2,aU YX,bF]
   have Tb:aQ (aQ (aQ d h [i,4,j]) b [i,5,j]) sy [i,6,j] b=[i,5,j]:=by rw[aU f7,bF]
   have Ty:aQ (aQ (aQ d h [i,4,j]) b [i,5,j]) sy [i,6,j] sy=[i,6,j]:=bF;generalize aQ (aQ (aQ d h [i,4,j]) b [i,5,j]) sy [i,6,j]=g9 at T B7 q7 Th Tb Ty;refine⟨_,S7 _ _ a2,(by rw[aae,sizeLine_eq];lia),some (.ref r),g9,hd++[⟨h,hx,r,b,sy⟩],Z,by simp[lj],λy u e=>?_,by rw[ak];simp,B7.set (.inr j2),λy u e=>?_,?_,?_⟩
   .rw[aF (aA e a3)]
    exact S7 _ _ (sc _ _ e)
   .rw[T y u (sc _ _ e)]
    exact Xu y u e
   .rw[T _ _ a2];exact d6
   .intro k A x' J M
    rcases lV J with J|⟨e1,rfl⟩
    .exact⟨(hc k A x' J M).1.mvT q7 (by simp) (by simp) (by simp) (by simp),(hc k A x' J M).2⟩
    .rw[e1,lj,ex] at M
     cases M;rw[e1,lj];have h3:d r=[0]:=by rw[Xu _ _ a7];exact tr
     obtain⟨t9,R9⟩:=iG ⟨h3,R.same sc⟩ q7 (by simp);have c9:=sc _ _ W8;exact⟨⟨⟨by rw[aF i4.symm];exact h7,by rw[aF i5.symm];exact b7,by rw[aF h9.symm];exact e2,f7,Z⟩,R9,t9,Th,Tb,Ty⟩,Bc.fresh hn (aA c9 hn).symm,Bc.fresh fb (aA c9 fb).symm,Bc.fresh fy (aA c9 fy).symm⟩
  rintro Y H8 ⟨v,S,hd,rfl,e3,b3,l3,B8,CG,d7,f0⟩;rw[aae] at e3;have Zh:=b3 _ _ W8;have c4:S o=[i,0]:=by rw[CG _ _ W8];exact d5
  refine⟨_,Z,o,ao,I,_,Z,Zh,aN.cls,aN.mV,(by show 2<1000;decide),?_⟩;refine g _ _ ?_;have b8:(upd H8 o (.ins ao I (cI "hands" (.ref O) [("program",.ref B),("numbers",.ref C)]))) o=some (.ins ao I [("program",.ref B),("numbers",.ref C),("hands",.ref O)]):=ak;have q9:tE [[i,0]] S H8 S (upd H8 o (.ins ao I (cI "hands" (.ref O) [("program",.ref B),("numbers",.ref C)]))):=tE.set (by rw[c4];simp) Zh (by intro xs z;cases z);have B9:Bs H τ o S (upd H8 o (.ins ao I (cI "hands" (.ref O) [("program",.ref B),("numbers",.ref C)]))):=B8.set (.inl rfl);generalize (upd H8 o (.ins ao I (cI "hands" (.ref O) [("program",.ref B),("numbers",.ref C)])))=H9 at b8 q9 B9 ⊢;refine u0 (λR g=>?_);refine⟨(by show 0<=sizeLine;decide),λW b6=>?_⟩;have b1:=aH (o:=HO.lst []) b6;refine⟨_,Z,o,ao,I,_,Z,b1 _ _ b8,aN.cls,aN.vB,(by show 3<1000;decide),?_⟩;refine g _ _ ?_;have d3:W≠o:=(aA b8 b6).symm;have Q0:(upd (upd H9 W (.lst [])) o (.ins ao I (cI "turns" (.ref W) [("program",.ref B),("numbers",.ref C),("hands",.ref O)]))) o=some (.ins ao I (wF B C O W)):=ak;have g6:(upd (upd H9 W (.lst [])) o (.ins ao I (cI "turns" (.ref W) [("program",.ref B),("numbers",.ref C),("hands",.ref O)]))) W=some (.lst []):=by rw[aF d3,ak]
  have Qo:tE [[i,0]] S H9 (aQ S W [i,3]) (upd (upd H9 W (.lst [])) o (.ins ao I (cI "turns" (.ref W) [("program",.ref B),("numbers",.ref C),("hands",.ref O)]))):=(tE.claim b1 b6).trans (tE.set (by rw[aU d3.symm,c4];simp) (b1 _ _ b8) (by intro xs z;cases z));have d4:Bs H τ o (aQ S W [i,3]) (upd (upd H9 W (.lst [])) o (.ins ao I (cI "turns" (.ref W) [("program",.ref B),("numbers",.ref C),("hands",.ref O)]))):=(B9.claim b1 b6 ⟨_,ak⟩).set (.inl rfl);have Qk:aQ S W [i,3] o=[i,0]:=by rw[aU d3.symm];exact c4
  have Qj:aQ S W [i,3] W=[i,3]:=bF;have K3:=q9.trans Qo;generalize (upd (upd H9 W (.lst [])) o (.ins ao I (cI "turns" (.ref W) [("program",.ref B),("numbers",.ref C),("hands",.ref O)])))=a5 at Q0 g6 Qo d4 K3 ⊢;generalize aQ S W [i,3]=HX at Qo d4 Qk Qj K3;have Ef:=K3.keep _ _ l3 (by rw[d7];simp);have S5:HX O=[i,2]:=Ef.2.trans d7;have Ef:=Ef.1
  have n5:∀x u,H5 x=some u->a1 x≠[i,0]->a5 x=some u/\HX x=a1 x:=λx u e n=>by
   have:=K3.keep _ _ (b3 _ _ e) (by rw[CG _ _ e];simp[n]);exact⟨this.1,by rw[this.2,CG _ _ e]⟩
  have f8:=n5 _ _ a4 (by rw[e0];simp);have g5:=n5 _ _ g0 (by rw[c5];simp);have l4:=K3.tup _ _ (b3 _ _ g2);have l2:∀(k:Nat)(A:pZ)(x:List Rw),hd[k]?=some A->c[k]?=some x->yV aq i k m HX a5 A (new x):=λk A x J M=>(f0 k A x J M).1.mvT K3 (by simp) (by simp) (by simp) (by simp)
  have k6:∀(k:Nat)(r:Addr)(x:List Rw),rs[k]?=some r->c[k]?=some x->HX r=[0]/\fL a5 r m x:=λk r x J M=>by
   obtain⟨t5,R5⟩:=e6 k r x J M;have rr:=R5;obtain⟨ts,a7,_⟩:=rr;exact iG ⟨by rw[CG _ _ a7];exact t5,R5.same b3⟩ K3 (by simp)
  have lh:hd.length=c.length:=by rw[e3,b4,lr]
  refine⟨_,Z,o,ao,I,_,_,Z,Q0,aN.cls,aN.mV,Z,O,Z,⟨_,bG.of Ef⟩,?_⟩
  refine vP (K:=K) (a:=O) (xs:=hd.map λa=>V.ref a.h) (λj Y l=>∃x1:Option V,Y=[some (.ref o),some (.ref p),some (.ref cl),x1]/\(∀x u,a5 x=some u->(∀k,HX x≠[i,4,k])->(∀k,HX x≠[i,5,k])->(∀k,HX x≠[i,6,k])->l x=some u)/\(∀x ys,a5 x=some (.tup ys)->l x=some (.tup ys))/\Bs H τ o HX l /\
   ∀(k:Nat)(A:pZ)(x:List Rw),hd[k]?=some A->c[k]?=some x->yV aq i k m HX l A (if k<j then lead (new x) else new x))
   ⟨none,Z,λx u e _ _ _=>e,λx ys e=>e,d4,λk A x J M=>by rw[ac9 (by lia)];exact l2 k A x J M⟩ (λj Y l _ ⟨_,_,kc,_⟩=>bG.of (kc _ _ Ef (by rw[S5];simp) (by rw[S5];simp) (by rw[S5];simp))) ?_ ?_
  .rintro j v Y l X ⟨x1,rfl,kc,tc,Bc,hc⟩
   rw[aam] at X
   obtain⟨A,eA,rfl⟩:∃A,hd[j]?=some A/\v=.ref A.h:=by
    cases e:hd[j]? with
    | none=>rw[e] at X;cases X
    | some A=>rw[e] at X;exact⟨A,Z,(abe X).symm⟩
   have jl:j<c.length:=by rw[←lh];exact(aak.mp eA).1
   have ex:c[j]?=some c[j]:=by simp[jl]
   have a:=hc j A _ eA ex;rw[ac9 (by lia)] at a;refine⟨_,Z,A.h,A.hx,_,Z,a.c.h,Z,A,_,m,Z,a.c,a.r,fj a.tr a.tb (by intro z;cases z),fj a.tr a.ty (by intro z;cases z),(by show 0<900000;decide),λg7 c2 b5=>?_⟩;have q12:tE [[i,4,j],[i,5,j],[i,6,j]] HX l HX g7:=⟨λx u e n=>⟨b5 _ _ e (λz=>n (by rw[z,a.th];simp)) (λz=>n (by rw[z,a.tb];simp)) (λz=>n (by rw[z,a.ty];simp)),Z⟩,a.c.tup b5⟩;refine⟨_,Z,λx u e n4 n5 n6=>(q12.keep _ _ (kc x u e n4 n5 n6) (by simp[n4,n5,n6])).1,λx ys e=>q12.tup _ _ (tc _ _ e),?_,?_⟩
   .obtain⟨f1,f2,f3⟩:=(f0 j A _ eA ex).2
    refine⟨Bc.un.dom λx e=>?_,λx u e n=>b5 _ _ (Bc.kp _ _ e n) (aA e f1) (aA e f2) (aA e f3),Bc.tg⟩;cases q:l x with
    | none=>rfl
    | some u=>
      have no:∀y o,g7 y=some o->x≠y:=λy o h z=>by rw[z,h] at e;cases e
      rw[b5 _ _ q (no _ _ c2.h) (no _ _ c2.b) (no _ _ c2.y)] at e;cases e
   .intro k A' x J M
    by_cases z:k=j
    .subst z
     rw[eA] at J;cases J;rw[ex] at M;cases M;rw[ac_ (by lia)];have c8:(lead (new c[k])).rws=c[k]:=vJ _ _;refine⟨c2,?_,a.tr,a.th,a.tb,a.ty⟩;rw[c8];exact(iG ⟨a.tr,a.r⟩ q12 (by simp)).2
    .have b:=(hc k A' x J M).mvT q12 (by simp) (by simp[z]) (by simp[z]) (by simp[z])
     by_cases lt:k<j
     .rw[ac_ lt] at b
      rw[ac_ (by lia)];exact b
     .rw[ac9 lt] at b
      rw[ac9 (by lia)];exact b
  .rintro Y g8 ⟨x1,rfl,kc,tc,Bc,hc⟩
   rw[aae] at hc;have kt:∀x u t,a5 x=some u->HX x=t->(∀k,t≠[i,4,k])->(∀k,t≠[i,5,k])->(∀k,t≠[i,6,k])->g8 x=some u:=λx u t e et n4 n5 n6=>kc x u e (by rw[et];exact n4) (by rw[et];exact n5) (by rw[et];exact n6);have g3:HX L=[0]:=f8.2.trans e0;have g4:HX C=[i,1]:=g5.2.trans c5
   have get:∀(k:Nat)(s:bO),(c.map λr=>lead (new r))[k]?=some s -> ∃x,c[k]?=some x/\s=lead (new x):=λk s e=>by
    rw[aam] at e;cases q:c[k]? with
    | none=>rw[q] at e;cases e
    | some x=>rw[q] at e;exact⟨x,Z,(abe e).symm⟩
   refine k1 good HX ⟨o,I,B,L,C,O,W,rs,hd⟩ g8 rfl ⟨Bc.un,i0,kt _ _ _ Q0 Qk (by simp) (by simp) (by simp),tc _ _ l4,kt _ _ _ f8.1 g3 (by simp) (by simp) (by simp),kt _ _ _ g5.1 g4 (by simp) (by simp) (by simp),kt _ _ _ Ef S5 (by simp) (by simp) (by simp),kt _ _ _ g6 Qj (by simp) (by simp) (by simp),Qk,g4,S5,Qj,g3,?_,?_,?_,?_,?_,?_,?_,?_⟩ Bc.tg Bc.kp
   .show rs.length=(c.map _).length
    rw[aae,b4,lr]
   .intro k r s J M
    obtain⟨x,ex,rfl⟩:=get k s M;obtain⟨t1,R1⟩:=k6 k r x J ex;have c8:(lead (new x)).rws=x:=vJ _ _;rw[c8];exact⟨t1,R1.keep (λu e=>kt _ _ _ e t1 (by simp) (by simp) (by simp)) tc⟩
   .show hd.length=(c.map _).length
    rw[aae,lh]
   .intro k A s J M
    obtain⟨x,ex,rfl⟩:=get k s M;have:=hc k A x J ex;rw[ac_ (aak.mp J).1] at this;exact this
   .intro s ms
    obtain⟨x,_,rfl⟩:=acL.mp ms;exact Ln _ _
   .intro s ms
    obtain⟨x,_,rfl⟩:=acL.mp ms;exact Lk 60 (new x)
   .have:=good.1
    show ns.length=m;lia
   .show (c.map _).length<=100
    rw[aae];exact rl
def WQ:Nat->PyData->Prop
 | 0,_=>False
 | n+1,.list ds=>ds.length<=20000 /\ ∀d∈ds,WQ n d
 | n+1,.tuple ds=>ds.length<=20000 /\ ∀d∈ds,WQ n d
 | _+1,.int _=>True
 | _+1,.str _=>True
 | _+1,.none=>True
 | _+1,.bool _=>True
 | _+1,_=>False
theorem WQ.ints(h:ns.length<=20000):WQ (n+2) (.list (ns.map PyData.int)):=by
 refine⟨by rw[aae];exact h,λd a=>?_⟩;obtain⟨i,_,rfl⟩:=acL.mp a;trivial
theorem Y7(K:zzy):W.kitOne K (.type "str") (.type "tuple")=some false:=by kernel_rfl
theorem Y9(K:zzy):W.kitOne K (.type "str") (.type "list")=some false:=by kernel_rfl
theorem GC(K:zzy):W.kitOne K (.type "str") (.type "bool")=some false:=by kernel_rfl
theorem Y8(K:zzy):W.kitOne K (.type "str") (.type "str")=some true:=Z
theorem Zb(K:zzy):W.kitOne K (.type "int") (.type "tuple")=some false:=by kernel_rfl
theorem Zd(K:zzy):W.kitOne K (.type "int") (.type "list")=some false:=by kernel_rfl
theorem Zc(K:zzy):W.kitOne K (.type "int") (.type "str")=some false:=by kernel_rfl
theorem Ze(K:zzy):W.kitOne K (.type "bool") (.type "tuple")=some false:=by kernel_rfl
theorem Zf(K:zzy):W.kitOne K (.type "bool") (.type "list")=some false:=by kernel_rfl
theorem Y_(K:zzy):W.kitOne K (.type "NoneType") (.type "tuple")=some false:=by kernel_rfl
theorem Za(K:zzy):W.kitOne K (.type "NoneType") (.type "list")=some false:=by kernel_rfl
theorem Ek(n:Nat)(v:V):(List.range n).filterMap (λ_=>some v)=List.replicate n v:=by
 induction n with
 | zero=>rfl
 | succ n a=>rw[d8,a,List.replicate_succ'];rfl
inductive oU(n:Nat)(K:zzy)(vs:List V)(H:Hp)(Q:VK)(dX:XK):Prop|m:∀(x y:V)(d:PyData),vs=[x,y]->Dat H x d->Dat H y d->WQ n d->(∀H',Same H H'->Q (.bl true) H')->oU n K vs H Q dX
theorem QG(F:fZ K "_law_alike" "_law_alike" vh f fd):bR P w K mg base iB 1 f fd ["found","due"] (oU 0 K):=by
 refine F.ok DG (λb H Q E h=>?_) (λc A a s H b Q E e h=>?_)
 .obtain⟨x,y,d,_,_,_,z,_⟩:=h
  exact z.elim
 .obtain⟨x,y,d,_,_,_,z,_⟩:=h
  exact z.elim
theorem sE(F:fZ K "_law_alike" "_law_alike" vh f fd)(X:FnAt P w K mg base (n+1) "_law_alike" ["found","due"] (oU n K))(e:nR mg):bR P w K mg base iB (n+1+1) f fd ["found","due"] (oU (n+1) K):=by
 refine F.ok DG (λt H Q E h=>?_) (λa0 A R s H t Q E hr h=>?_)
 .obtain⟨x,y,d,rfl,_⟩:=h
  rfl
 .obtain⟨x,y,d,rfl,j,g,m,k⟩:=h
  refine⟨_,(aB (cj (PW.pt (pN (dH (aV (cR (K:=K) (cv:= .ty "tuple") (c:= .type "tuple") rfl rfl) (by rfl) e.bQ bM (aj (pv 1) (aj (fM (v:= .ty "tuple") (by rfl) e.zF v8 rfl) au)))) (nJ (dH (aV (cR (K:=K) (cv:= .ty "list") (c:= .type "list") rfl rfl) (by rfl) e.bQ bM (aj (pv 1) (aj (fM (v:= .ty "list") (by rfl) e.iD fO rfl) au))))))) (aB (cj (PW.pt (pN (bD pP (aV (cR (K:=K) (cv:= .ty "tuple") (c:= .type "tuple") rfl rfl) (by rfl) e.bQ bM (aj (pv 0) (aj (fM (v:= .ty "tuple") (by rfl) e.zF v8 rfl) au))) (aV (cR (K:=K) (cv:= .ty "tuple") (c:= .type "tuple") rfl rfl) (by rfl) e.bQ bM (aj (pv 1) (aj (fM (v:= .ty "tuple") (by rfl) e.zF v8 rfl) au))) (bA _)) (nJ (bD pP (aV (cR (K:=K) (cv:= .ty "list") (c:= .type "list") rfl rfl) (by rfl) e.bQ bM (aj (pv 0) (aj (fM (v:= .ty "list") (by rfl) e.iD fO rfl) au))) (aV (cR (K:=K) (cv:= .ty "list") (c:= .type "list") rfl rfl) (by rfl) e.bQ bM (aj (pv 1) (aj (fM (v:= .ty "list") (by rfl) e.iD fO rfl) au))) (bA _))))) (aJ (bw mR)) bJ)
   (aB (cj (bD pP (aV (aW (K:=K) rfl) (by rfl) e.dJ cG (aj (pv 0) au)) (aV (aW (K:=K) rfl) (by rfl) e.dJ cG (aj (pv 1) au)) (bA _)) (aJ (bw mR)) bJ)
   (aJ (bw (aV (iM (K:=K) rfl rfl) (by rfl) e.Pr Hu (aj (dZ rfl (N:=["mine","other"]) (own:=["mine","other"]) (caps:=[]) (bB.of (by kernel_rfl)) (Yo (K:=K) rfl (by rfl) e.ae4 (aj (pv 0) (aj (pv 1) au))) (λ_ _ _ _=>(Gm (K:=K) (n:=2) rfl rfl (oh (bK (i:=0) (show List.Nodup (["mine","other"]:List Str) by decide +kernel) rfl (Or.inl rfl)) (oh (bK (i:=1) (show List.Nodup (["mine","other"]:List Str) by decide +kernel) rfl (Or.inl rfl)) Gk)))) (λ_ _ _ _=>dF) (λ_ _ _ _=>(bN X (hr.mono (aaw _)) (by rfl) (aj (pv 0) (aj (pv 1) au))))) au)))))) bJ)
   (aB (cj (bD Gq (pv 1) j8 (bA _)) (aJ (bw (cZ Gq (pv 0) j8 (bA _)))) bJ)
   (aB (cj (PW.pt (pN (dH (aV (cR (K:=K) (cv:= .ty "bool") (c:= .type "bool") rfl rfl) (by rfl) e.bQ bM (aj (pv 1) (aj (fM (v:= .ty "bool") (by rfl) e.Cq v9 rfl) au)))) (nJ (dH (aV (cR (K:=K) (cv:= .ty "str") (c:= .type "str") rfl rfl) (by rfl) e.bQ bM (aj (pv 1) (aj (fM (v:= .ty "str") (by rfl) e.ae5 acw rfl) au))))))) (aJ (bw (j9 (cZ eV (aV (cR (K:=K) (cv:= .ty "bool") (c:= .type "bool") rfl rfl) (by rfl) e.bQ bM (aj (pv 0) (aj (fM (v:= .ty "bool") (by rfl) e.Cq v9 rfl) au))) (aV (cR (K:=K) (cv:= .ty "bool") (c:= .type "bool") rfl rfl) (by rfl) e.bQ bM (aj (pv 1) (aj (fM (v:= .ty "bool") (by rfl) e.Cq v9 rfl) au))) (bA _)) (jA (cZ eV (pv 0) (pv 1) (bA _)))))) bJ)
   (aJ (bw (j9 (aV (cR (K:=K) (cv:= .ty "int") (c:= .type "int") rfl rfl) (by rfl) e.bQ bM (aj (pv 0) (aj (fM (v:= .ty "int") (by rfl) e.J9 Ci rfl) au))) (j9 (Uv (aV (cR (K:=K) (cv:= .ty "bool") (c:= .type "bool") rfl rfl) (by rfl) e.bQ bM (aj (pv 0) (aj (fM (v:= .ty "bool") (by rfl) e.Cq v9 rfl) au)))) (jA (cZ eV (pv 0) (pv 1) (bA _)))))))))),?_⟩
  match d,m,j,g with
  | .int i,m,j,g=>
    simp only[Dat] at j g;subst j g;refine⟨_,Z,_,_,false,Z,.int i,Zb K,_,Z,cX ?_⟩;refine⟨_,Z,_,_,false,Z,.int i,Zd K,_,Z,cX ?_⟩;refine⟨_,Z,Z,_,Z,cX ?_⟩;refine⟨_,Z,_,_,false,Z,.int i,pG K,_,Z,cX ?_⟩;refine⟨_,Z,_,_,false,Z,.int i,Zc K,_,Z,cX ?_⟩;refine⟨_,Z,_,_,true,Z,.int i,yC K,_,Z,fH ?_⟩;refine⟨_,Z,_,_,false,Z,.int i,pG K,_,Z,_,Z,fH ?_⟩;refine⟨_,Z,_,Z,Z,?_⟩;rw[aaO rfl];exact k _ (Same.refl _)
  | .str i,m,j,g=>
    simp only[Dat] at j g;subst j g;refine⟨_,Z,_,_,false,Z,.str i,Y7 K,_,Z,cX ?_⟩;refine⟨_,Z,_,_,false,Z,.str i,Y9 K,_,Z,cX ?_⟩;refine⟨_,Z,Z,_,Z,cX ?_⟩;refine⟨_,Z,_,_,false,Z,.str i,GC K,_,Z,cX ?_⟩;refine⟨_,Z,_,_,true,Z,.str i,Y8 K,_,Z,fH ?_⟩;refine⟨_,Z,_,_,false,Z,.str i,GC K,_,Z,_,_,false,Z,.str i,GC K,Z,_,Z,?_⟩;refine cO (λ_=>?_) (λz=>ac' (aaO rfl) z);refine⟨_,Z,_,Z,Z,?_⟩;rw[aaO rfl];exact k _ (Same.refl _)
  | .bool i,m,j,g=>
    simp only[Dat] at j g;subst j g;refine⟨_,Z,_,_,false,Z,.bl i,Ze K,_,Z,cX ?_⟩;refine⟨_,Z,_,_,false,Z,.bl i,Zf K,_,Z,cX ?_⟩;refine⟨_,Z,Z,_,Z,cX ?_⟩;refine⟨_,Z,_,_,true,Z,.bl i,nO K,_,Z,fH ?_⟩;refine fH ?_;refine⟨_,Z,_,_,true,Z,.bl i,nO K,_,Z,_,_,true,Z,.bl i,nO K,Z,_,Z,?_⟩;refine cO (λ_=>?_) (λz=>ac' (aaO rfl) z);refine⟨_,Z,_,Z,Z,?_⟩;rw[aaO rfl];exact k _ (Same.refl _)
  | .none,m,j,g=>
    simp only[Dat] at j g;subst j g;refine⟨_,Z,_,_,false,Z,.non,Y_ K,_,Z,cX ?_⟩;refine⟨_,Z,_,_,false,Z,.non,Za K,_,Z,cX ?_⟩;refine⟨_,Z,Z,_,Z,fH ?_⟩;exact⟨_,Z,Z,k _ (Same.refl _)⟩
  | .list q,m,j,g=>
    simp only[Dat] at j g;obtain⟨a,t,rfl,o,L⟩:=j;obtain⟨b,u,rfl,l,db⟩:=g;have C:t.length=q.length:=L.length;have B:u.length=q.length:=db.length;have O:q.length<=20000:=m.1;refine⟨_,Z,_,_,false,Z,.lst l,lR K,_,Z,cX ?_⟩;refine⟨_,Z,_,_,true,Z,.lst l,jQ K,_,Z,fH ?_⟩;refine⟨_,Z,_,_,false,Z,.lst o,lR K,_,Z,_,_,false,Z,.lst l,lR K,Z,_,Z,?_⟩;refine vK rfl ?_;refine⟨_,Z,_,_,true,Z,.lst o,jQ K,_,Z,_,_,true,Z,.lst l,jQ K,Z,_,Z,?_⟩;refine vK rfl ?_;refine⟨_,Z,a,_,Z,.inl (bG.of o),_,Z,b,_,Z,.inl (bG.of l),Z,_,Z,?_⟩;refine vK (by rw[C,B]) ?_;refine⟨_,Z,_,Z,a,b,t,u,Z,.inl ⟨bG.of o,bG.of l,λD V=>?_⟩⟩;refine Rj (K:=K) C B (λi=>some (.bl true)) V (bG.of o) (bG.of l) (by lia) (λi x y H2 G F U T r Y S=>?_) (λH2 r J=>?_)
    .obtain⟨d,I,j⟩:=L.get U
     obtain⟨d',p,g⟩:=db.get T;rw[I] at p;cases p;exact⟨_,Z,_,Z,x,y,d,Z,j.same r d,g.same r d,m.2 d (aaK I),λW M=>S _ W M rfl⟩
    .rw[Ek] at J
     refine⟨D,List.replicate q.length true,Z,bG.of (by rw[J,List.map_replicate]),?_⟩;rw[show (List.replicate q.length true).all id=true by simp];exact k H2 r
  | .tuple q,m,j,g=>
    simp only[Dat] at j g;obtain⟨a,t,rfl,o,L⟩:=j;obtain⟨b,u,rfl,l,db⟩:=g;have C:t.length=q.length:=L.length;have B:u.length=q.length:=db.length;have O:q.length<=20000:=m.1;refine⟨_,Z,_,_,true,Z,.tup l,iK K,_,Z,fH ?_⟩;refine fH ?_;refine⟨_,Z,_,_,true,Z,.tup o,iK K,_,Z,_,_,true,Z,.tup l,iK K,Z,_,Z,?_⟩;refine vK rfl ?_;refine⟨_,Z,_,_,false,Z,.tup o,qR K,_,Z,_,_,false,Z,.tup l,qR K,Z,_,Z,?_⟩;refine vK rfl ?_;refine⟨_,Z,a,_,Z,.inr (cD.of o),_,Z,b,_,Z,.inr (cD.of l),Z,_,Z,?_⟩;refine vK (by rw[C,B]) ?_;refine⟨_,Z,_,Z,a,b,t,u,Z,.inr ⟨cD.of o,cD.of l,λD V=>?_⟩⟩;refine LQ (K:=K) C B (λi=>some (.bl true)) V o l (by lia) (λi x y H2 G F U T r Y S=>?_) (λH2 r J=>?_)
    .obtain⟨d,I,j⟩:=L.get U
     obtain⟨d',p,g⟩:=db.get T;rw[I] at p;cases p;exact⟨_,Z,_,Z,x,y,d,Z,j.same r d,g.same r d,m.2 d (aaK I),λW M=>S _ W M rfl⟩
    .rw[Ek] at J
     refine⟨D,List.replicate q.length true,Z,bG.of (by rw[J,List.map_replicate]),?_⟩;rw[show (List.replicate q.length true).all id=true by simp];exact k H2 r
def Aa(ns bs:List Int)(r:Rw):PyData:= .tuple [.str (tG r),.int (jd r),oD (Bg ns r),oD (MN bs r)]
theorem G6(x:Option Int):Dat H (oV x) (oD x):=by cases x<;>simp only[oV,oD,Dat]
theorem Rh{t:Addr}{bs:List Int}{r:Rw}(h:H t=some (.tup (z_ ns bs r))):Dat H (.ref t) (Aa ns bs r):=by
 unfold Aa z_ at *;simp only[Dat];exact⟨t,_,Z,h,by simp only[aR,Dat,and_true,true_and];exact⟨G6 _,G6 _⟩⟩
theorem Uo(ns bs:List Int)(r:Rw):WQ (n+2) (Aa ns bs r):=by
 refine⟨by show 4<=20000;decide,λd a=>?_⟩;have:∀x:Option Int,WQ (n+1) (oD x):=λx=>by cases x<;>trivial
 simp only[List.mem_cons,List.mem_nil_iff,or_false] at a;rcases a with rfl|rfl|rfl|rfl
 .trivial
 .trivial
 .exact this _
 .exact this _
structure RT(τ:Tg)(H:Hp)(r:Addr):Prop where
 R:eZ H r
 off:∀x o,H x=some o->τ x≠[]->x≠r/\Off H r x
 un:sU τ H
theorem RT.draw{r:Addr}(h:RT τ H r)(k:KR r H H')(b:eZ H' r):RT τ H' r:=by
 have a:sU τ H':=h.un.dom λx e=>by
  refine Kp.new k.1 e ?_;exact b.at
 refine⟨b,λx o e t=>?_,a⟩;cases q:H x with
 | none=>exact ac' (h.un x q) t
 | some u=>
   obtain⟨n,f⟩:=h.off x u q t;exact⟨n,k.2 x u q n f⟩
theorem RT.stp{r:Addr}(h:RT τ H r)(k:jH i τ H H'):RT τ H' r:=by
 obtain⟨g,c,w,y,p,t,b,j,d,q⟩:=h.R
 have m:τ r=[]:=by
  by_cases z:τ r=[]
  .exact z
  .exact ac' rfl (h.off r _ b z).1
 have s:τ g=[]:=by
  by_cases z:τ g=[]
  .exact z
  .exact ac' rfl ((h.off g _ j z).2 _ _ _ _ b).1
 have v:τ c=[]:=by
  by_cases z:τ c=[]
  .exact z
  .exact ac' rfl ((h.off c _ d z).2 _ _ _ _ b).2
 have a:=k.keep _ _ b (by rw[m];simp);refine⟨⟨g,c,w,y,p,t,a,k.keep _ _ j (by rw[s];simp),k.keep _ _ d (by rw[v];simp),q⟩,λx o e t=>?_,h.un.dom k.dom⟩;cases q:H x with
 | none=>exact ac' (h.un x q) t
 | some u=>
   obtain⟨n,f⟩:=h.off x u q t;refine⟨n,λC D B A l=>?_⟩;rw[a] at l;cases l;exact f _ _ _ _ b
theorem RT.same{r:Addr}(h:RT τ H r)(k:Same H H'):RT τ H' r:=h.stp (i:=0) (jH.of_same k)
theorem RT.kr{r:Addr}(h:RT τ H r)(k:KR r H H'):Mv i τ H τ H':=⟨λx o e t=>⟨k.1 _ _ e (h.off x o e (by
 rcases t with t|t
 .rw[t];simp
 .intro z;rw[z] at t;cases t)).1,Z⟩,h.R.tups k.1⟩
theorem RT.keep{r x:Addr}{o:HO}(h:RT τ H r)(k:KR r H H')(e:H x=some o)(t:τ x≠[]):H' x=some o:=k.1 _ _ e (h.off x o e t).1
theorem RT.new{r:Addr}(R:eZ H r)(a:List Addr)(t:List Nat)(b:∀x∈a,(∃o,H x=some o)/\x≠r/\Off H r x):RT (λx=>if x∈a then t else []) H r:=by
 refine⟨R,λx o e n=>?_,λx e=>?_⟩
 .by_cases z:x∈a
  .exact(b x z).2
  .simp only[z] at n;exact ac' rfl n
 .by_cases z:x∈a
  .obtain⟨o,c⟩:=(b x z).1
   rw[c] at e;cases e
  .simp only[z];rfl
theorem RT.claim{τ:Tg}{H H':Hp}{r p:Addr}{t:List Nat}(h:RT τ H r)(k:Same H H')(b:H p=none)(a:∃o,H' p=some o):RT (aQ τ p t) H' r:=by
 have c:=h.same k;refine⟨c.R,λx o e n=>?_,h.un.claim k a⟩
 by_cases z:x=p
 .subst z
  exact⟨h.R.ne b,(h.R.off b).same h.R k⟩
 .rw[aU z] at n
  exact c.off x o e n
theorem RT.made{r:Addr}(h:RT τ H r)(k:Same H H')(b:∀x u,H x=some u->τ' x=τ x)(un:sU τ' H'):RT τ' H' r:=by
 have a:=h.same k;refine⟨a.R,λx o e n=>?_,un⟩;cases q:H x with
 | some u=>exact a.off x o e (by rw[←b x u q];exact n)
 | none=>exact⟨h.R.ne q,(h.R.off q).same h.R k⟩
theorem acz:∀b:Fin 8,wG (Str.ofString "abcdefgh").cps.toList ((b.val:Nat):Int)=some (97+b.val):=by decide +kernel
theorem Pk{i:Int}(a:0<=i)(b:i<8):wG (Str.ofString "abcdefgh").cps.toList i=some (97+i.toNat):=by
 have:=acz ⟨i.toNat,by lia⟩;simp only[Int.toNat_of_nonneg a] at this;exact this
theorem Py:(Str.ofString "abcdefgh").length<=sizeLine:=by rw[sizeLine_eq];decide
theorem Wm{x:RP}(h:H p=some (.tup (match x with | .num n=>[.str "number",.int n] | .box b=>[.str "box",.str (v7 b)]))):Dat H (.ref p) (Ds x):=by
 cases x<;>simp only[Ds,Dat]<;>refine⟨p,_,Z,h,?_⟩<;>simp only[aR,Dat,and_true]
theorem Zv{a b:V}{q:Bool}{x y:RP}(h:H p=some (.tup [.str (if q then "plus" else "minus"),a,b]))(c:Dat H a (Ds x))(db:Dat H b (Ds y)):Dat H (.ref p) (oJ (.two q x y)):=by
 simp only[oJ,Dat];refine⟨p,_,Z,h,?_⟩;simp only[aR,Dat,and_true];exact⟨trivial,c,db⟩
inductive Fz(K:zzy)(vs:List V)(H:Hp)(Q:VK)(dX:XK):Prop|m:∀(r:Addr)(b:Int),vs=[.ref r,.int b]->eZ H r->0<b->b<=8->(∀(v:V)(x:RP)(H':Hp),Dat H' v (Ds x)->Sg x->eZ H' r->KR r H H'->Q v H')->Fz K vs H Q dX
theorem Vc(F:fZ K "_law_plain" "_law_plain" Ay f fd)(l:FnAt P w K mg base 1 "_law_draw" ["reel","many"] (kO K)):bR P w K mg base iB 2 f fd ["reel","boxes"] (Fz K):=by
 refine F.ok Dz (λu H Q E h=>?_) (λv A m s H u Q E j h=>?_)
 .obtain⟨r,b,rfl,_⟩:=h
  rfl
 .obtain⟨r,b,rfl,R,y,D,k⟩:=h
  refine⟨_,(aB (bH (i:=2) Dz.nd rfl (Or.inl rfl) (bN l (j.mono (by decide)) (by rfl) (aj (pv 0) (aj aG au))))
   (aB (cj (bD eV (pv 2) aG (bA _)) (aJ (bw (dY (aj bT (aj (bN l (j.mono (by decide)) (by rfl) (aj (pv 0) (aj aG au))) au))))) bJ)
   (aB (cj (bD eV (pv 2) aG (bA _)) (aJ (bw (dY (aj bT (aj (bN l (j.mono (by decide)) (by rfl) (aj (pv 0) (aj aG au))) au))))) bJ)
   (aJ (bw (dY (aj bT (aj (aO Lq bT (bN l (j.mono (by decide)) (by rfl) (aj (pv 0) (aj (pv 1) au))) (λ_ _=>rfl)) au)))))))),?_⟩
  refine⟨_,Z,r,3,Z,R,by decide,by decide,λz H1 C B t q=>?_⟩
  have num:∀(H2:Hp)(n:Int)(p:Addr),0<=n->n<1000->eZ H2 r->KR r H H2->H2 p=none->Q (.ref p) (upd H2 p (.tup [.str "number",.int n])):=λH2 n p a g R2 c d=>by
   have e:=aH (o:=HO.tup [V.str (Str.ofString "number"),V.int n]) d;exact k _ (.num n) _ (Wm (x:= .num n) ak) ⟨a,g⟩ (R2.keep e) (c.trans (KR.same R2 e))
  refine⟨_,Z,Z,_,Z,?_⟩;refine cO (λ_=>?_) (λ_=>?_)
  .refine⟨_,Z,r,1000,Z,t,by decide,by decide,λn H2 a g R2 c=>?_⟩
   exact⟨(by show 2<=sizeLine;decide),λp d=>num H2 n p a g R2 (q.trans c) d⟩
  refine⟨_,Z,Z,_,Z,?_⟩;refine cO (λ_=>?_) (λ_=>?_)
  .refine⟨_,Z,r,4,Z,t,by decide,by decide,λn H2 a g R2 c=>?_⟩
   exact⟨(by show 2<=sizeLine;decide),λp d=>num H2 n p a (by lia) R2 (q.trans c) d⟩
  refine⟨_,Z,_,Z,r,b,Z,t,y,by lia,λn H2 a g R2 c=>?_⟩;refine⟨_,_,_,Z,Z,Py,Pk a (by lia),(by show 2<=sizeLine;decide),λp d=>?_⟩;have e:=aH (o:=HO.tup [V.str (Str.ofString "box"),V.str (v7 n.toNat)]) d;exact k _ (.box n.toNat) _ (Wm (x:= .box n.toNat) ak) (by show n.toNat<8;lia) (R2.keep e) ((q.trans c).trans (KR.same R2 e))
inductive Fv(K:zzy)(vs:List V)(H:Hp)(Q:VK)(dX:XK):Prop|m:∀(r:Addr)(b:Int),vs=[.ref r,.int b]->eZ H r->0<b->b<=8->(∀(v:V)(e:Kl)(H':Hp),Dat H' v (oJ e)->xX e->eZ H' r->KR r H H'->Q v H')->Fv K vs H Q dX
theorem U3(F:fZ K "_law_worth" "_law_worth" Ax f fd)(b_:FnAt P w K mg base 1 "_law_draw" ["reel","many"] (kO K))(L:FnAt P w K mg base 2 "_law_plain" ["reel","boxes"] (Fz K)):bR P w K mg base iB 3 f fd ["reel","boxes"] (Fv K):=by
 refine F.ok xu (λO H Q E h=>?_) (λY A j s H O Q E m h=>?_)
 .obtain⟨r,b,rfl,_⟩:=h
  rfl
 .obtain⟨r,b,rfl,R,G,D,k⟩:=h
  refine⟨_,(aB (bH (i:=2) xu.nd rfl (Or.inl rfl) (bN b_ (m.mono (by decide)) (by rfl) (aj (pv 0) (aj aG au))))
   (aB (bH (i:=3) xu.nd rfl (Or.inl rfl) (bN L (m.mono (by decide)) (by rfl) (aj (pv 0) (aj (pv 1) au))))
   (aB (cj (bD ou (pv 2) aG (bA _)) (aJ (bw (pv 3))) bJ)
   (aJ (bw (dY (aj (aO (aL (K:=K) rfl) (cJ (aj bT (aj bT au))) (bY uf (pv 2) aG) (λ_ _=>rfl)) (aj (pv 3) (aj (bN L (m.mono (by decide)) (by rfl) (aj (pv 0) (aj (pv 1) au))) au))))))))),?_⟩
  refine⟨_,Z,r,4,Z,R,by decide,by decide,λz H1 z0 z1 R1 T=>?_⟩;refine⟨_,Z,_,Z,r,b,Z,R1,G,D,λv x H2 C t R2 S=>?_⟩;refine⟨_,Z,_,_,Z,Z,_,Z,?_⟩;have c:=T.trans S;refine cO (λ_=>?_) (λM=>?_)
  .exact⟨_,Z,k v (.one x) H2 C t R2 c⟩
  have z2:2<=z:=by simp at M;lia
  refine⟨(by show 2<=sizeLine;decide),λl W=>?_⟩;have g:=aH (o:=HO.lst [V.str (Str.ofString "plus"),V.str (Str.ofString "minus")]) W
  obtain⟨q,eq⟩:∃q:Bool,wG [V.str (Str.ofString "plus"),V.str (Str.ofString "minus")] (z-2)=some (.str (if q then "plus" else "minus")):=by
   have:z=2\/z=3:=by lia
   rcases this with rfl|rfl
   .exact⟨true,Z⟩
   .exact⟨false,Z⟩
  refine⟨_,Z,_,_,Z,Z,_,_,_,_,Z,Z,bG.of ak,eq,?_⟩;have J:=R2.keep g;refine⟨_,Z,_,Z,_,Z,r,b,Z,J,G,D,λu y H4 X N I B=>?_⟩;refine⟨(by show 3<=sizeLine;decide),λp U=>?_⟩;have d:=aH (o:=HO.tup [V.str (if q then "plus" else "minus"),v,u]) U;have n:=C.keep (λa xs e=>d _ _ (B.tups J _ _ (g _ _ e))) _ (Ls x);exact k _ (.two q x y) _ (Zv ak n (X.same d _)) ⟨t,N⟩ (I.keep d) (((c.trans (KR.same R2 g)).trans B).trans (KR.same I d))
section
variable{x:V}{b c:Nat}{e f:Kl}
theorem Wo(h:H p=some (.tup [.str "load",.str (v7 b),.int c])):Dat H (.ref p) (n_ (.load b c)):=by
 simp only[n_,Dat];exact⟨p,_,Z,h,by simp only[aR,Dat,and_true]⟩
theorem Ri(h:H p=some (.tup [.str "store",.int c,x]))(d:Dat H x (oJ e)):Dat H (.ref p) (n_ (.store c e)):=by
 simp only[n_,Dat];exact⟨p,_,Z,h,by simp only[aR,Dat,and_true,true_and];exact d⟩
theorem Wn(h:H p=some (.tup [.str "swap",.str (v7 b),.int c,x]))(d:Dat H x (oJ e)):Dat H (.ref p) (n_ (.swap b c e)):=by
 simp only[n_,Dat];exact⟨p,_,Z,h,by simp only[aR,Dat,and_true,true_and];exact d⟩
theorem Zy(h:H p=some (.tup [.str "let",.str (v7 b),x]))(d:Dat H x (oJ e)):Dat H (.ref p) (n_ (.yP b e)):=by
 simp only[n_,Dat];exact⟨p,_,Z,h,by simp only[aR,Dat,and_true,true_and];exact d⟩
theorem Zx(h:H p=some (.tup [.str "say",x]))(d:Dat H x (oJ e)):Dat H (.ref p) (n_ (.say e)):=by
 simp only[n_,Dat];exact⟨p,_,Z,h,by simp only[aR,Dat,and_true,true_and];exact d⟩
theorem acs(h:H p=some (.tup [.str "go",.int n])):Dat H (.ref p) (n_ (.go n)):=by
 simp only[n_,Dat];exact⟨p,_,Z,h,by simp only[aR,Dat,and_true]⟩
theorem Zu{q:Bool}(h:H p=some (.tup [.str "unless",.str (if q then "=" else "<"),x,y,.int n]))(d:Dat H x (oJ e))(d':Dat H y (oJ f)):Dat H (.ref p) (n_ (.yp q e f n)):=by
 simp only[n_,Dat];exact⟨p,_,Z,h,by simp only[aR,Dat,and_true,true_and];exact⟨d,d'⟩⟩
end
inductive rW(CH:Addr)(K:zzy)(vs:List V)(H:Hp)(Q:VK)(dX:XK):Prop|m:∀(A:pZ)(s:bO),vs=[.ref A.h]->pJ CH H A s->(∀(B:pZ)(H':Hp),H B.h=none->H B.b=none->H B.sy=none->B.r=A.r->pJ CH H' B s->Same H H'->Q (.ref B.h) H')->rW CH K vs H Q dX
theorem abl(r b a sy:Addr)(n:Int)(st:Str):cI "in_boxes" (.ref a) (hF r n b sy st)=hF r n a sy st:=by rfl
theorem abk(r b sy a:Addr)(n:Int)(st:Str):cI "sayings" (.ref a) (hF r n b sy st)=hF r n b a st:=by rfl
theorem Ld(F:fZ K "another" "Hand.another" lK f fd)(d:fY K aq)(Mu:pI P w K mg base 1 aq "Hand" ["self","rows"] [] (uX aq K))(X:nR mg):bR P w K mg base iB 3 f fd ["self"] (rW aq K):=by
 refine F.ok pL (λY H Q E h=>?_) (λa2 A D s H Y Q E hr h=>?_)
 .obtain⟨A,s,rfl,_⟩:=h
  rfl
 .obtain⟨B,s,rfl,c,k⟩:=h
  refine⟨_,(aB (bH (i:=1) pL.nd rfl (Or.inl rfl) (jT Mu (hr.mono (by decide)) (by rfl) (aj (aZ (K:=K) rfl (pv 0) rfl) au)))
   (aB (cT (K:=K) rfl (pv 1) (aZ (K:=K) rfl (pv 0) rfl) rfl)
   (aB (cT (K:=K) rfl (pv 1) (dB (cC (K:=K) rfl) (by rfl) X.iD fO (aj (aZ (K:=K) rfl (pv 0) rfl) au)) rfl)
   (aB (cT (K:=K) rfl (pv 1) (dB (cC (K:=K) rfl) (by rfl) X.iD fO (aj (aZ (K:=K) rfl (pv 0) rfl) au)) rfl)
   (aB (cT (K:=K) rfl (pv 1) (aZ (K:=K) rfl (pv 0) rfl) rfl)
   (aJ (bw (pv 1)))))))),?_⟩
  refine⟨_,Z,B.h,aq,B.hx,_,_,Z,c.h,d.cls,d.qP,Z,λh a j G nx=>?_⟩;have n:(upd H a (.own h)) h=none:=by rw[aF nx.symm];exact j
  have O:Same H (upd (upd H a (.own h)) h (.ins aq a [])):=(aH G).trans (aH n);refine⟨h,B.r,a,Z,ak,λv g H1 a0 a3 a5 e1 a1 a4 S=>⟨Z,?_⟩⟩;have S1:Same H H1:=λx u e=>S _ _ (O _ _ e) (aA e j);clear S O n;have c1:=c.same S1;refine⟨_,Z,B.h,aq,B.hx,_,_,Z,c1.h,d.cls,d.vD,Z,_,Z,h,aq,a,_,Z,e1,d.cls,d.vD,(by show 5<1000;decide),?_⟩;rw[Bh];have S2:Same H (upd H1 h (.ins aq a (hF B.r s.pos v g "waits"))):=λx u e=>by rw[aF (aA e j)];exact S1 _ _ e
  have L:(upd H1 h (.ins aq a (hF B.r s.pos v g "waits"))) h=some (.ins aq a (hF B.r s.pos v g "waits")):=ak;generalize (upd H1 h (.ins aq a (hF B.r s.pos v g "waits")))=H2 at S2 L ⊢;have W:=c.same S2;refine⟨_,Z,B.h,aq,B.hx,_,_,Z,W.h,d.cls,d.jC,Z,B.b,_,Z,.inl (bG.of W.b),λb I=>?_⟩;have R:=aH (o:=HO.lst (s.bs.map V.int)) I;have M:b≠h:=(aA L I).symm;refine⟨_,Z,h,aq,a,_,Z,R _ _ L,d.cls,d.jC,(by show 5<1000;decide),?_⟩;rw[abl];have fb:H b=none:=S2.free I;have z:Same H (upd (upd H2 b (.lst (s.bs.map V.int))) h (.ins aq a (hF B.r s.pos b g "waits"))):=λx u e=>by rw[aF (aA e j)];exact R _ _ (S2 _ _ e)
  have J:(upd (upd H2 b (.lst (s.bs.map V.int))) h (.ins aq a (hF B.r s.pos b g "waits"))) h=some (.ins aq a (hF B.r s.pos b g "waits")):=ak;have l:(upd (upd H2 b (.lst (s.bs.map V.int))) h (.ins aq a (hF B.r s.pos b g "waits"))) b=some (.lst (s.bs.map V.int)):=by rw[aF M,ak]
  generalize (upd (upd H2 b (.lst (s.bs.map V.int))) h (.ins aq a (hF B.r s.pos b g "waits")))=r at z J l ⊢;have U:=c.same z;refine⟨_,Z,B.h,aq,B.hx,_,_,Z,U.h,d.cls,d.oA,Z,B.sy,_,Z,.inl (bG.of U.y),λy t=>?_⟩;have C:=aH (o:=HO.lst (s.sy.map V.int)) t;have m:y≠h:=(aA J t).symm;have QJ:b≠y:=aA l t;refine⟨_,Z,h,aq,a,_,Z,C _ _ J,d.cls,d.oA,(by show 5<1000;decide),?_⟩;rw[abk];have fy:H y=none:=z.free t;have N:Same H (upd (upd r y (.lst (s.sy.map V.int))) h (.ins aq a (hF B.r s.pos b y "waits"))):=λx u e=>by rw[aF (aA e j)];exact C _ _ (z _ _ e)
  have T:(upd (upd r y (.lst (s.sy.map V.int))) h (.ins aq a (hF B.r s.pos b y "waits"))) h=some (.ins aq a (hF B.r s.pos b y "waits")):=ak;have q:(upd (upd r y (.lst (s.sy.map V.int))) h (.ins aq a (hF B.r s.pos b y "waits"))) b=some (.lst (s.bs.map V.int)):=by rw[aF M];exact C _ _ l
  have p:(upd (upd r y (.lst (s.sy.map V.int))) h (.ins aq a (hF B.r s.pos b y "waits"))) y=some (.lst (s.sy.map V.int)):=by rw[aF m,ak]
  generalize (upd (upd r y (.lst (s.sy.map V.int))) h (.ins aq a (hF B.r s.pos b y "waits")))=H4 at N T q p ⊢;have c4:=c.same N;refine⟨_,Z,B.h,aq,B.hx,_,_,Z,c4.h,d.cls,d.jO,Z,_,Z,h,aq,a,_,Z,T,d.cls,d.jO,(by show 5<1000;decide),?_⟩;rw[Gj];exact⟨_,Z,k ⟨h,a,B.r,b,y⟩ _ j fb fy rfl ⟨ak,by rw[aF M];exact q,by rw[aF m];exact p,QJ,c.bl⟩ (λx u e=>by rw[aF (aA e j)];exact N _ _ e)⟩
inductive wR(CW CH:Addr)(K:zzy)(vs:List V)(H:Hp)(Q:VK)(dX:XK):Prop|m:∀(i i':Nat)(τ:Tg)(W:wg)(S:eO),vs=[.ref W.o]->mC CW CH i τ H W S->kJ S->S.m<=100->i'≠0->(∀(τ':Tg)(W':wg)(H':Hp),mC CW CH i' τ' H' W' S->(∀x u,H x=some u->τ' x=τ x)->Same H H'->Q (.ref W'.o) H')->wR CW CH K vs H Q dX
theorem Yz(F:fZ K "twin" "Works.twin" o8 f fd)(C:dz K ao)(aM:fY K aq)(wu:pI P w K mg base 7 ao "Works" ["self","program","cells"] [] (λvs H Q _=>mH ao aq bW K vs H Q λ_ _ _=>False))(Cy:MethAt P w K mg base 3 aq "another" ["self"] (rW aq K))(Bt:nR mg):bR P w K mg base iB 9 f fd ["self"] (wR ao aq K):=by
 refine F.ok tK (λvs H Q E h=>?_) (λc9 A b7 s H vs Q E hr h=>?_)
 .obtain⟨i,c,τ,W,S,rfl,_⟩:=h
  rfl
 .obtain⟨i,c,τ,W,S,rfl,w,g,ml,i0,k⟩:=h
  refine⟨_,(aB (bH (i:=1) tK.nd rfl (Or.inl rfl) (jT wu (hr.mono (by decide)) (by rfl) (aj (aZ (K:=K) rfl (pv 0) rfl) (aj (aZ (K:=K) rfl (pv 0) rfl) au))))
   (aB (cT (K:=K) rfl (pv 1) (dZ rfl (N:=["one"]) (own:=["one"]) (caps:=[]) (bB.of (by kernel_rfl)) (dg (K:=K) rfl (aZ (K:=K) rfl (pv 0) rfl)) (λ_ _ _ _=>(bK (i:=0) (show List.Nodup (["one"]:List Str) by decide +kernel) rfl (Or.inl rfl))) (λ_ _ _ _=>dF) (λ_ _ _ _=>(cu Cy aM.cls (hr.mono (by decide)) (pv 0)))) rfl)
   (aB (cT (K:=K) rfl (pv 1) (dB (cC (K:=K) rfl) (by rfl) Bt.iD fO (aj (aZ (K:=K) rfl (pv 0) rfl) au)) rfl)
   (aJ (bw (pv 1)))))),?_⟩
  have good:qO S.m S.ns:=⟨by rw[w.nl],g.n⟩;refine⟨_,Z,W.o,ao,W.dx,_,_,Z,w.o,C.cls,C.sI,Z,_,Z,W.o,ao,W.dx,_,_,Z,w.o,C.cls,C.jB,Z,λo dx ho c2 b8=>?_⟩;have b1:(upd H dx (.own o)) o=none:=by rw[aF b8.symm];exact ho
  have U:Same H (upd (upd H dx (.own o)) o (.ins ao dx [])):=(aH c2).trans (aH b1);refine⟨c,τ,o,dx,W.pg,W.L,W.rs,S.m,.ref W.nb,S.ns,S.hs.map bO.rws,Z,ak,U _ _ w.pg,U _ _ w.L,by rw[aae];exact w.rl,λX r x O q=>?_,by rw[aae];exact w.hn,ml,w.un.same U,i0,by rw[w.nl];exact ml,.inr ⟨W.nb,Z,U _ _ w.nb⟩,λ_ G b H1 eo m tg kp=>⟨Z,?_⟩,λbad=>ac' good bad⟩
  .rw[aam] at q
   cases e:S.hs[X]? with
   | none=>rw[e] at q;cases q
   | some s=>rw[e] at q;cases q;exact(w.rs X r s O e).2.same U
  have S1:Same H H1:=λx u e=>kp _ _ (U _ _ e) (aA e ho);have a2:∀x u,H x=some u->G x=τ x:=λx u e=>tg x u (U _ _ e) (aA e ho);have fo:H b.o=none:=by rw[eo];exact ho
  have b3:V.ref o=V.ref b.o:=by rw[eo]
  rw[b3];clear kp tg U b1 b3;have wA:mC ao aq i G H1 W S:=w.mv (Mv.tags S1 a2) m.un;refine⟨_,Z,W.o,ao,W.dx,_,_,Z,wA.o,C.cls,C.mV,Z,W.hl,Z,⟨_,bG.of wA.hl⟩,λD hD=>?_⟩;have sD:=aH (o:=HO.lst []) hD;refine jE (K:=K) (xs:=W.hd.map λa=>V.ref a.h) (λj σ R=>∃(v:Option V) (d:Tg) (J:List pZ),σ=[v]/\J.length=j/\Same H1 R/\R D=some (.lst (J.map λa=> .ref a.h))/\sU d R/\(∀x u,H1 x=some u->d x=G x)/\d D=[c,2] /\ ∀(k:Nat)(A:pZ)(s:bO),J[k]?=some A->S.hs[k]?=some s->yV aq c k S.m d R A s) ?_ ?_ ?_ ?_
  .exact⟨none,aQ G D [c,2],[],Z,Z,sD,ak,m.un.claim sD ⟨_,ak⟩,λx u e=>aU (aA e hD),bF,λk A s e=>by simp at e⟩
  .rintro j σ R _ ⟨v,d,J,rfl,_,sc,_⟩
   exact bG.of (sc _ _ wA.hl)
  .rintro j x σ R hj ⟨v,d,J,rfl,lj,sc,p,a6,Xu,a8,hc⟩
   rw[aam] at hj
   obtain⟨A,eA,rfl⟩:∃A,W.hd[j]?=some A/\x=.ref A.h:=by
    cases e:W.hd[j]? with
    | none=>rw[e] at hj;cases hj
    | some A=>rw[e] at hj;exact⟨A,Z,(abe hj).symm⟩
   have wc:mC ao aq i d R W S:=wA.mv (Mv.tags sc Xu) a6;have jl:j<S.hs.length:=by rw[←w.len];exact(aak.mp eA).1
   have es:S.hs[j]?=some S.hs[j]:=by simp[jl]
   have a:=wc.hd j A _ eA es;dsimp only[bU,yK];rw[ac_ rfl];refine⟨_,Z,A.h,A.hx,_,Z,a.c.h,Z,A,_,Z,a.c,λB H7 fh fb fy er I s7=>?_⟩;have c0:D≠B.h:=aA p fh;have c1:D≠B.b:=aA p fb;have b9:D≠B.sy:=aA p fy;have T:∀x u,R x=some u->aQ (aQ (aQ d B.h [c,4,j]) B.b [c,5,j]) B.sy [c,6,j] x=d x:=λy u e=>by rw[aU (aA e fy),aU (aA e fb),aU (aA e fh)]
   have U7:sU (aQ (aQ (aQ d B.h [c,4,j]) B.b [c,5,j]) B.sy [c,6,j]) H7:=λy e=>by
    have n1:y≠B.h:=λz=>by rw[z,I.h] at e;cases e
    have n2:y≠B.b:=λz=>by rw[z,I.b] at e;cases e
    have n3:y≠B.sy:=λz=>by rw[z,I.y] at e;cases e
    rw[aU n3,aU n2,aU n1];exact a6 y (s7.free e)
   have Th:aQ (aQ (aQ d B.h [c,4,j]) B.b [c,5,j]) B.sy [c,6,j] B.h=[c,4,j]:=by rw[aU I.nhy,aU I.YX,bF]
   have Tb:aQ (aQ (aQ d B.h [c,4,j]) B.b [c,5,j]) B.sy [c,6,j] B.b=[c,5,j]:=by rw[aU I.QJ,bF]
   have Ty:aQ (aQ (aQ d B.h [c,4,j]) B.b [c,5,j]) B.sy [c,6,j] B.sy=[c,6,j]:=bF;generalize aQ (aQ (aQ d B.h [c,4,j]) B.b [c,5,j]) B.sy [c,6,j]=a5 at T U7 Th Tb Ty
   have q7:tE [[c,2]] d R a5 (upd H7 D (.lst ((J.map λa=>V.ref a.h)++[V.ref B.h]))):=by
    refine⟨λy u e n=>⟨?_,T y u e⟩,λy ys e=>?_⟩
    .rw[aF (λz:y=D=>n (by rw[z,a8];simp))]
     exact s7 _ _ e
    .rw[aF (dD e p (by intro z;cases z))]
     exact s7 _ _ e
   have c8:J.length<=100:=by rw[lj];have:=w.hn;lia
   refine⟨_,s7 _ _ p,(by rw[aae,sizeLine_eq];lia),some (.ref A.h),a5,J++[B],Z,by simp[lj],λy u e=>?_,by rw[ak];simp,?_,λy u e=>?_,?_,?_⟩
   .rw[aF (aA e hD)]
    exact s7 _ _ (sc _ _ e)
   .exact U7.dom λy e=>by
     by_cases z:y=D
     .rw[z,ak] at e;cases e
     .rw[aF z] at e;exact e
   .rw[T y u (sc _ _ e)]
    exact Xu y u e
   .rw[T _ _ p];exact a8
   .intro k A' s' O q
    rcases lV O with O|⟨e1,rfl⟩
    .exact(hc k A' s' O q).mvT q7 (by simp) (by simp) (by simp) (by simp)
    .rw[e1,lj,es] at q
     cases q;rw[e1,lj];obtain⟨t9,R9⟩:=iG ⟨a.tr,a.r⟩ q7 (by simp);exact⟨⟨by rw[aF c0.symm];exact I.h,by rw[aF c1.symm];exact I.b,by rw[aF b9.symm];exact I.y,I.QJ,I.bl⟩,by rw[er];exact R9,by rw[er];exact t9,Th,Tb,Ty⟩
  rintro σ H8 ⟨v,l,J,rfl,b0,L,c4,b6,CG,a9,c3⟩;rw[aae] at b0;have Zh:=L _ _ m.o;have a1:l b.o=[c,0]:=by rw[CG _ _ m.o];exact m.to
  refine⟨_,Z,b.o,ao,b.dx,_,Z,Zh,C.cls,C.mV,(by show 4<1000;decide),?_⟩;have M:(upd H8 b.o (.ins ao b.dx (cI "hands" (.ref D) (wF b.pg b.nb b.hl b.tn)))) b.o=some (.ins ao b.dx (wF b.pg b.nb D b.tn)):=ak;have q9:tE [[c,0]] l H8 l (upd H8 b.o (.ins ao b.dx (cI "hands" (.ref D) (wF b.pg b.nb b.hl b.tn)))):=tE.set (by rw[a1];simp) Zh (by intro xs z;cases z)
  have a0:sU l (upd H8 b.o (.ins ao b.dx (cI "hands" (.ref D) (wF b.pg b.nb b.hl b.tn)))):=b6.dom λy e=>by
   by_cases z:y=b.o
   .rw[z,ak] at e;cases e
   .rw[aF z] at e;exact e
  have S9:Same H (upd H8 b.o (.ins ao b.dx (cI "hands" (.ref D) (wF b.pg b.nb b.hl b.tn)))):=λx u e=>by rw[aF (aA e fo)];exact L _ _ (S1 _ _ e)
  generalize (upd H8 b.o (.ins ao b.dx (cI "hands" (.ref D) (wF b.pg b.nb b.hl b.tn))))=Y at M q9 a0 S9 ⊢;have w9:mC ao aq i l Y W S:=w.mv (Mv.tags S9 λx u e=>(CG x u (S1 _ _ e)).trans (a2 x u e)) a0;refine⟨_,Z,W.o,ao,W.dx,_,_,Z,w9.o,C.cls,C.vB,Z,W.tn,_,Z,.inl (bG.of w9.tn),λt ht=>?_⟩;have st:=aH (o:=HO.lst (S.ts.map V.int)) ht;have a3:t≠b.o:=(aA M ht).symm;refine⟨_,Z,b.o,ao,b.dx,_,Z,st _ _ M,C.cls,C.vB,(by show 4<1000;decide),?_⟩;have Q0:(upd (upd Y t (.lst (S.ts.map V.int))) b.o (.ins ao b.dx (cI "turns" (.ref t) (wF b.pg b.nb D b.tn)))) b.o=some (.ins ao b.dx (wF b.pg b.nb D t)):=ak;have b4:(upd (upd Y t (.lst (S.ts.map V.int))) b.o (.ins ao b.dx (cI "turns" (.ref t) (wF b.pg b.nb D b.tn)))) t=some (.lst (S.ts.map V.int)):=by rw[aF a3,ak]
  have Qo:tE [[c,0]] l Y (aQ l t [c,3]) (upd (upd Y t (.lst (S.ts.map V.int))) b.o (.ins ao b.dx (cI "turns" (.ref t) (wF b.pg b.nb D b.tn)))):=(tE.claim st ht).trans (tE.set (by rw[aU a3.symm,a1];simp) (st _ _ M) (by intro xs z;cases z))
  have a4:sU (aQ l t [c,3]) (upd (upd Y t (.lst (S.ts.map V.int))) b.o (.ins ao b.dx (cI "turns" (.ref t) (wF b.pg b.nb D b.tn)))):=(a0.claim st ⟨_,ak⟩).dom λy e=>by
   by_cases z:y=b.o
   .rw[z,ak] at e;cases e
   .rw[aF z] at e;exact e
  have b5:Same H (upd (upd Y t (.lst (S.ts.map V.int))) b.o (.ins ao b.dx (cI "turns" (.ref t) (wF b.pg b.nb D b.tn)))):=λx u e=>by rw[aF (aA e fo)];exact st _ _ (S9 _ _ e)
  have Qk:aQ l t [c,3] b.o=[c,0]:=by rw[aU a3.symm];exact a1
  have Qj:aQ l t [c,3] t=[c,3]:=bF;have a7:∀x u,H x=some u->aQ l t [c,3] x=τ x:=λx u e=>by rw[aU (aA (S9 _ _ e) ht)];exact(CG x u (S1 _ _ e)).trans (a2 x u e)
  have c5:tE [[c,0]] G H1 l H8:=⟨λx u e _=>⟨L _ _ e,CG x u e⟩,L.tups⟩;have Q8:=q9.trans Qo;generalize (upd (upd Y t (.lst (S.ts.map V.int))) b.o (.ins ao b.dx (cI "turns" (.ref t) (wF b.pg b.nb D b.tn))))=c6 at Q0 b4 Qo a4 b5 Q8 ⊢;generalize aQ l t [c,3]=HX at Qo a4 Qk Qj a7 Q8;have Q1:=c5.trans Q8;have hL:=Q1.keep _ _ m.L (by rw[m.tL];simp);have b2:=Q1.keep _ _ m.nb (by rw[m.tb];simp);have W_:=Q8.keep _ _ c4 (by rw[a9];simp);refine⟨_,Z,k HX ⟨b.o,b.dx,b.pg,b.L,b.nb,D,t,b.rs,J⟩ c6 ⟨a4,i0,Q0,Q1.tup _ _ m.pg,hL.1,b2.1,W_.1,b4,Qk,b2.2.trans m.tb,W_.2.trans a9,Qj,hL.2.trans m.tL,?_,?_,by rw[b0,w.len],λX A s O q=>(c3 X A s O q).mvT Q8 (by simp) (by simp) (by simp) (by simp),w.ok,w.sl,w.nl,w.hn⟩ a7 b5⟩
  .have:=m.rl
   unfold jY at this;simpa using this
  .intro X r s O q
   have e1:(jY S.m S.ns (S.hs.map bO.rws)).hs[X]?=some (lead (new s.rws)):=by
    show ((S.hs.map bO.rws).map λr=>lead (new r))[X]?=_;rw[aam,aam,q];rfl
   have:=m.rs X r _ O e1;rw[show (lead (new s.rws)).rws=s.rws from vJ _ _] at this;exact iG this Q1 (by simp)
def TX(s:bO):V:=if s.st = "waits" then .int s.pos else .non
inductive FN(CH:Addr)(K:zzy)(vs:List V)(H:Hp)(Q:VK)(dX:XK):Prop|m:∀(A:pZ)(s:bO),vs=[.ref A.h]->pJ CH H A s->(∀(t:Addr)(H':Hp),Dat (nw H H') (.ref t) (xM s)->Same H H'->Q (.ref t) H')->FN CH K vs H Q dX
theorem YM(F:fZ K "picture" "Hand.picture" lH f fd)(a:fY K aq)(x:nR mg):bR P w K mg base iB 1 f fd ["self"] (FN aq K):=by
 refine F.ok pK (λC H Q E h=>?_) (λI A l s H C Q E J h=>?_)
 .obtain⟨A,s,rfl,_⟩:=h
  rfl
 .obtain⟨B,s,rfl,c,k⟩:=h
  refine⟨_,(aB (bH (i:=1) pK.nd rfl (Or.inl rfl) (lO (bD eV (aZ (K:=K) rfl (pv 0) rfl) bT (bA _)) (aZ (K:=K) rfl (pv 0) rfl) j8))
   (aJ (bw (dY (aj (aZ (K:=K) rfl (pv 0) rfl) (aj (pv 1) (aj (dB (cC (K:=K) rfl) (by rfl) x.iD fO (aj (aZ (K:=K) rfl (pv 0) rfl) au)) (aj (dB (cC (K:=K) rfl) (by rfl) x.iD fO (aj (aZ (K:=K) rfl (pv 0) rfl) au)) au)))))))),?_⟩
  refine u_ (λn H1=>n=[some (.ref B.h),some (TX s)]/\H1=H) (λL d D=>?_) ?_
  .refine⟨_,Z,B.h,aq,B.hx,_,_,Z,c.h,a.cls,a.jO,Z,Z,_,Z,?_⟩
   refine cO (λq=>?_) (λq=>?_)
   .have m:s.st=Str.ofString "waits" :=V.str.inj (aaT q)
    refine⟨_,Z,B.h,aq,B.hx,_,_,Z,c.h,a.cls,a.vD,Z,d _ _ ⟨?_,Z⟩⟩;unfold TX;rw[ac_ m];rfl
   .have m:¬s.st=Str.ofString "waits" :=λz=>q (aaO (by rw[z]))
    refine d _ _ ⟨?_,Z⟩;unfold TX;rw[ac9 m];rfl
  rintro n H1 ⟨rfl,rfl⟩;refine⟨_,Z,B.h,aq,B.hx,_,_,Z,c.h,a.cls,a.jO,Z,_,Z,_,Z,B.h,aq,B.hx,_,_,Z,c.h,a.cls,a.jC,Z,B.b,_,Z,.inl (bG.of c.b),λb u=>?_⟩;have e:=aH (o:=HO.lst (s.bs.map V.int)) u;have v:=c.same e;refine⟨_,Z,B.h,aq,B.hx,_,_,Z,v.h,a.cls,a.oA,Z,B.sy,_,Z,.inl (bG.of v.y),λy p=>?_⟩;have g:=aH (o:=HO.lst (s.sy.map V.int)) p;refine⟨(by show 4<=sizeLine;decide),λt r=>?_⟩;have j:=aH (o:=HO.tup [V.str s.st,TX s,V.ref b,V.ref y]) r;refine k t _ ?_ ((e.trans g).trans j);have G:H1 y=none:=e.free p;have ft:H1 t=none:=e.free (g.free r);simp only[xM,Dat];refine⟨t,_,Z,DW ft ak,?_⟩;simp only[aR,Dat,and_true,true_and];refine⟨?_,dh (DW u (j _ _ (g _ _ ak))),dh (DW G (j _ _ ak))⟩;unfold TX;split<;>simp only[Dat]
def wkD(S:eO):PyData:=Sh S (pY S)
inductive Nz(CW CH:Addr)(K:zzy)(vs:List V)(H:Hp)(Q:VK)(dX:XK):Prop|m:∀(i:Nat)(τ:Tg)(W:wg)(S:eO),vs=[.ref W.o]->mC CW CH i τ H W S->(∀(t:Addr)(H':Hp),Dat H' (.ref t) (wkD S)->Same H H'->Q (.ref t) H')->Nz CW CH K vs H Q dX
theorem mC.prog{W:wg}(w:mC CW CH i τ H W S):Dat H (.ref W.pg) (Um S):=by
 have go:∀(d:List Addr)(c:List bO),d.length=c.length->(∀(k:Nat)(r:Addr)(s:bO),d[k]?=some r->c[k]?=some s->fL H r S.m s.rws)->aR H (d.map V.ref) (c.map λs=>vo s.rws):=by
  intro d
  induction d with
  | nil=>
    intro c l _;cases c with
    | nil=>simp only[List.map_nil,aR]
    | cons a b=>cases l
  | cons r d m=>
    intro c l h;cases c with
    | nil=>cases l
    | cons s c=>
      simp only[List.map_cons,aR];obtain⟨p,o,n,_⟩:=h 0 r s rfl rfl;exact⟨jc o n,m c (by simpa using l) λk j g f e=>h (k+1) j g f e⟩
 simp only[Um,Dat];refine⟨W.pg,_,Z,w.pg,?_⟩;simp only[aR,Dat,and_true,true_and];exact⟨W.L,_,Z,w.L,go W.rs S.hs w.rl λk r s f e=>(w.rs k r s f e).2⟩
theorem mC.HS{W:wg}(w:mC CW CH i τ H W S):∀s∈S.hs,∀r∈s.rws,I_ S.m r:=λs hs=>by
 obtain⟨k,b⟩:=List.getElem?_of_mem hs;obtain⟨A,_,a⟩:=w.hand b;obtain⟨c,_,_,h,_⟩:=a.r;exact h
theorem abF(F:fZ K "picture" "Works.picture" j5 f fd)(b:dz K ao)(aM:fY K aq)(Cw:MethAt P w K mg base 1 aq "picture" ["self"] (FN aq K))(Di:MethAt P w K mg base 1 ao "cells" ["self"] (zu ao aq K))(Y:MethAt P w K mg base 1 ao "counts" ["self"] (lB ao aq K))(Bt:nR mg):bR P w K mg base iB 2 f fd ["self"] (Nz ao aq K):=by
 refine F.ok nY (λJ H Q E h=>?_) (λa0 A u s H J Q E v h=>?_)
 .obtain⟨i,q,W,S,rfl,_⟩:=h
  rfl
 .obtain⟨i,q,W,S,rfl,w,k⟩:=h
  refine⟨_,(aB (mL (i:=1) rfl nY.nd rfl (Or.inl rfl) (N:=["one"]) (own:=["one"]) (caps:=[]) (bB.of (by kernel_rfl)) (dg (K:=K) rfl (aZ (K:=K) rfl (pv 0) rfl)) (λ_ _ _ _=>(bK (i:=0) (show List.Nodup (["one"]:List Str) by decide +kernel) rfl (Or.inl rfl))) (λ_ _ _ _=>dF) (λ_ _ _ _=>(cu Cw aM.cls (v.mono (by decide)) (pv 0))))
   (aJ (bw (dY (aj (aZ (K:=K) rfl (pv 0) rfl) (aj (cu Di b.cls (v.mono (by decide)) (pv 0)) (aj (pv 1) (aj (cu Y b.cls (v.mono (by decide)) (pv 0)) au)))))))),?_⟩
  refine⟨_,Z,W.o,ao,W.dx,_,_,Z,w.o,b.cls,b.mV,Z,W.hl,Z,⟨_,bG.of w.hl⟩,λD U=>?_⟩;refine Ro (K:=K) (λj=>((S.hs[j]?).map xM).getD .none) U (bG.of w.hl) (by rw[aae,w.len];have:=w.hn;lia) (λj x H1 F g p O=>?_) (λH1 p d1=>?_)
  .rw[aam] at g
   obtain⟨A,B,rfl⟩:∃A,W.hd[j]?=some A/\x=.ref A.h:=by
    cases e:W.hd[j]? with
    | none=>rw[e] at g;cases g
    | some A=>rw[e] at g;exact⟨A,Z,(abe g).symm⟩
   have R:j<S.hs.length:=by rw[←w.len];exact(aak.mp B).1
   have z:S.hs[j]?=some S.hs[j]:=by simp[R]
   have a:=(w.same p).hd j A _ B z;refine⟨_,Z,A.h,A.hx,_,Z,a.c.h,Z,A,_,Z,a.c,λt H2 d2 d=>?_⟩;refine O _ H2 d ?_;rw[z];exact d2
  have l:=w.same p;refine⟨_,Z,W.o,ao,W.dx,_,_,Z,l.o,b.cls,b.sI,Z,_,Z,W.o,W.dx,_,Z,l.o,Z,i,q,W,S,Z,l,λM H2 f2 e2 d=>?_⟩;have r:=l.same d;refine⟨_,Z,_,Z,W.o,W.dx,_,Z,r.o,Z,i,q,W,S,Z,r,λL H3 f3 e3 m=>?_⟩;have I:=r.same m;refine⟨(by show 4<=sizeLine;decide),λt T=>?_⟩;have c:=aH (o:=HO.tup [V.ref W.pg,V.ref M,V.ref D,V.ref L]) T;have G:=I.same c;refine k t _ ?_ (((p.trans d).trans m).trans c);have C:=d1.same (((YS _ _).trans (d.trans m)).trans c) _
  have X:((List.range (W.hd.map λa=>V.ref a.h).length).map λj=>((S.hs[j]?).map xM).getD .none)=S.hs.map xM:=by
   rw[aae,w.len];refine List.ext_getElem? λn=>?_
   by_cases y:n<S.hs.length
   .simp[y]
   .simp[y]
  rw[X] at C;unfold wkD Sh;simp only[Dat];refine⟨t,_,Z,ak,?_⟩;have d5:=G.prog;simp only[aR,and_true];refine⟨d5,dh (c _ _ (m _ _ e2)),C,dh (c _ _ e3)⟩
theorem Vz(K:zzy)(C:Addr):W.kitOne K (.ref C) (.ref C)=some true:=by simp[W.kitOne]
def wkE(S T:eO):Bool:=PyData.eqv (wkD S) (wkD T)
inductive Ny(CW CH:Addr)(K:zzy)(vs:List V)(H:Hp)(Q:VK)(dX:XK):Prop|m:∀(i i':Nat)(τ τ':Tg)(W W':wg)(S S':eO),vs=[.ref W.o,.ref W'.o]->mC CW CH i τ H W S->mC CW CH i' τ' H W' S'->kJ S->kJ S'->(∀(H':Hp),Same H H'->Q (.bl (wkE S S')) H')->Ny CW CH K vs H Q dX
theorem abD(F:fZ K "__eq__" "Works.__eq__" lE f fd)(l:dz K ao)(n:IsO K mg ao "Works")(r:MethAt P w K mg base 2 ao "picture" ["self"] (Nz ao aq K))(I:nR mg):bR P w K mg base iB 3 f fd ["self","other"] (Ny ao aq K):=by
 refine F.ok yN (λy H Q E h=>?_) (λG A e s H y Q E j h=>?_)
 .obtain⟨i,u,m,a,W,b,S,x,rfl,_⟩:=h
  rfl
 .obtain⟨i,u,m,a,W,b,S,x,rfl,w,d,g,B,k⟩:=h
  have z:=j.units;refine⟨_,(aJ (bw (j9 (aV (cR (K:=K) (cv:= .ref ao) (c:= .ref ao) rfl rfl) (by rfl) I.bQ bM (aj (pv 1) (aj (jN (v:= .ref ao) (by rfl) n.bd rfl) au))) (jA (cZ (vA (K:=K) rfl z) (cu r l.cls (j.mono (by decide)) (pv 0)) (cu r l.cls (j.mono (by decide)) (pv 1)) (bA _)))))),?_⟩;refine⟨_,Z,_,_,true,Z,n.ty d.o l.cls,Vz K _,true,Z,?_⟩;refine fH ?_;refine⟨_,Z,W.o,W.dx,_,Z,w.o,Z,i,m,W,S,Z,w,λt H1 D q=>?_⟩;have o:=d.same q;refine⟨_,Z,b.o,b.dx,_,Z,o.o,Z,u,a,b,x,Z,o,λJ H2 C p=>?_⟩;refine⟨_,_,D.same p _,C,Ho g w.HS,Ho B d.HS,?_⟩;rw[ac9 aaV];exact k H2 (q.trans p)
theorem RT.set{τ:Tg}{H:Hp}{r x:Addr}{o u:HO}(h:RT τ H r)(e:H x=some o)(t:τ x≠[]):RT τ (upd H x u) r:=by
 obtain⟨n,f⟩:=h.off x o e t;refine⟨h.R.set n f,λy v a ty=>?_,λy a=>?_⟩
 .by_cases z:y=x
  .subst z
   exact⟨n,f.set n⟩
  .rw[aF z] at a
   obtain⟨b,c⟩:=h.off y v a ty;exact⟨b,c.set n⟩
 .by_cases z:y=x
  .rw[z,ak] at a;cases a
  .rw[aF z] at a;exact h.un y a
inductive Tn(K:zzy)(vs:List V)(H:Hp)(Q:VK)(dX:XK):Prop|m:∀(r z:Addr)(sz bx:Int)(m n:Nat),vs=[.ref r,.ref z,.int n]->eZ H r->H z=some (.lst [.int sz,.int m,.int bx])->z≠r->0<=sz->sz<=100->0<m->m<=20->0<bx->bx<=8->(∀(v:V)(x:Rw)(H':Hp),Dat H' v (n_ x)->I_ m x->eZ H' r->KR r H H'->Q v H')->Tn K vs H Q dX
theorem aiP:∀i:Int,i=0\/i=1->wG (Str.ofString "=<").cps.toList i=some (if i=0 then 61 else 60):=by
 intro i h;rcases h with rfl|rfl<;>decide +kernel
theorem Wd:(Str.ofString "=<").length<=sizeLine:=by rw[sizeLine_eq];decide
theorem abE(F:fZ K "_law_row" "_law_row" KY f fd)(S:FnAt P w K mg base 1 "_law_draw" ["reel","many"] (kO K))(G:FnAt P w K mg base 3 "_law_worth" ["reel","boxes"] (Fv K))(Bt:nR mg):bR P w K mg base iB 4 f fd ["reel","sizes","at"] (Tn K):=by
 refine F.ok oZ (λvs H Q E h=>?_) (λa3 A U s H vs Q E q h=>?_)
 .obtain⟨r,z,sz,B,m,n,rfl,_⟩:=h
  rfl
 .obtain⟨r,z,sz,B,m,n,rfl,R,hz,g,z0,z1,m0,m1,C,I,k⟩:=h
  refine⟨_,(aB (bH (i:=3) oZ.nd rfl (Or.inl rfl) (bN S (q.mono (by decide)) (by rfl) (aj (pv 0) (aj aG au))))
   (aB (bH (i:=4) oZ.nd rfl (Or.inl rfl) (bN S (q.mono (by decide)) (by rfl) (aj (pv 0) (aj aG au))))
   (aB (bH (i:=5) oZ.nd rfl (Or.inl rfl) (aO Lq bT (bN S (q.mono (by decide)) (by rfl) (aj (pv 0) (aj (aO (aL (K:=K) rfl) (pv 1) aG (λ_ _=>rfl)) au))) (λ_ _=>rfl)))
   (aB (bH (i:=6) oZ.nd rfl (Or.inl rfl) (bN S (q.mono (by decide)) (by rfl) (aj (pv 0) (aj (aO (aL (K:=K) rfl) (pv 1) aG (λ_ _=>rfl)) au))))
   (aB (bH (i:=7) oZ.nd rfl (Or.inl rfl) (bN S (q.mono (by decide)) (by rfl) (aj (pv 0) (aj (bY iR (aO (aL (K:=K) rfl) (pv 1) aG (λ_ _=>rfl)) aG) au))))
   (aB (cj (bD ou (pv 3) aG (bA _)) (aJ (bw (dY (aj bT (aj (pv 5) (aj (pv 6) au)))))) bJ)
   (aB (cj (bD ou (pv 3) aG (bA _)) (aJ (bw (dY (aj bT (aj (pv 6) (aj (bN G (q.mono (by decide)) (by rfl) (aj (pv 0) (aj (aO (aL (K:=K) rfl) (pv 1) aG (λ_ _=>rfl)) au))) au)))))) bJ)
   (aB (cj (bD ou (pv 3) aG (bA _)) (aJ (bw (dY (aj bT (aj (pv 5) (aj (pv 6) (aj (bN G (q.mono (by decide)) (by rfl) (aj (pv 0) (aj (aO (aL (K:=K) rfl) (pv 1) aG (λ_ _=>rfl)) au))) au))))))) bJ)
   (aB (cj (bD ou (pv 3) aG (bA _)) (aJ (bw (dY (aj bT (aj (pv 5) (aj (bN G (q.mono (by decide)) (by rfl) (aj (pv 0) (aj (aO (aL (K:=K) rfl) (pv 1) aG (λ_ _=>rfl)) au))) au)))))) bJ)
   (aB (cj (bD eV (pv 3) aG (bA _)) (aJ (bw (dY (aj bT (aj (bN G (q.mono (by decide)) (by rfl) (aj (pv 0) (aj (aO (aL (K:=K) rfl) (pv 1) aG (λ_ _=>rfl)) au))) au))))) bJ)
   (aB (cj (bD aah (pv 4) aG (bA _)) (aJ (bH (i:=7) oZ.nd rfl (Or.inl rfl) (aV (Rq rfl) (by rfl) Bt.ae6 acy (aj (pv 7) (aj (bY iR (pv 2) aG) au))))) bJ)
   (aB (cj (bD eV (pv 3) aG (bA _)) (aJ (bw (dY (aj bT (aj (pv 7) au))))) bJ)
   (aJ (bw (dY (aj bT (aj (aO Lq bT (bY uf (pv 3) aG) (λ_ _=>rfl)) (aj (bN G (q.mono (by decide)) (by rfl) (aj (pv 0) (aj (aO (aL (K:=K) rfl) (pv 1) aG (λ_ _=>rfl)) au))) (aj (bN G (q.mono (by decide)) (by rfl) (aj (pv 0) (aj (aO (aL (K:=K) rfl) (pv 1) aG (λ_ _=>rfl)) au))) (aj (pv 7) au)))))))))))))))))))),?_⟩
  refine⟨_,Z,r,13,Z,R,by decide,by decide,λu H1 a1 a0 R1 k1=>?_⟩;refine⟨_,Z,r,3,Z,R1,by decide,by decide,λah H2 _ _ R2 k2=>?_⟩;have N:=k2.1 _ _ (k1.1 _ _ hz g) g;refine⟨_,Z,_,Z,_,_,_,_,Z,Z,bG.of N,Z,r,B,Z,R2,C,by lia,λi H3 i0 i1 R3 k3=>?_⟩;refine⟨_,_,_,Z,Z,Py,Pk i0 (by lia),?_⟩;have M:=k3.1 _ _ N g;refine⟨_,Z,_,Z,_,_,_,_,Z,Z,bG.of M,Z,r,m,Z,R3,by lia,by lia,λc H4 c0 c1 R4 k4=>?_⟩;obtain⟨c,rfl⟩:=ac3 c0;have L:=k4.1 _ _ M g;refine⟨_,Z,_,Z,_,_,_,_,Z,Z,bG.of L,Z,_,_,Z,Z,r,_,Z,R4,by lia,by lia,λto H5 t0 t1 y k5=>?_⟩;obtain⟨to,rfl⟩:=ac3 t0;have j:=k5.1 _ _ L g;have D:KR r H H5:=(((k1.trans k2).trans k3).trans k4).trans k5;have W:i.toNat<8:=by lia
  have cm:c<m:=by lia
  refine⟨_,Z,_,_,Z,Z,_,Z,?_⟩;refine cO (λ_=>?_) (λ_=>?_)
  .refine⟨_,Z,_,Z,(by show 3<=sizeLine;decide),λp l=>?_⟩
   have a:=aH (o:=HO.tup [V.str (Str.ofString "load"),V.str (v7 i.toNat),V.int c]) l;exact k _ (.load i.toNat c) _ (Wo ak) ⟨W,cm⟩ (y.keep a) (D.trans (KR.same y a))
  refine⟨_,Z,_,_,Z,Z,_,Z,?_⟩;refine cO (λ_=>?_) (λ_=>?_)
  .refine⟨_,Z,_,Z,_,Z,_,_,_,_,Z,Z,bG.of j,Z,r,B,Z,y,C,I,λv e T d x b t=>?_⟩
   refine⟨(by show 3<=sizeLine;decide),λp l=>?_⟩;have a:=aH (o:=HO.tup [V.str (Str.ofString "store"),V.int c,v]) l;exact k _ (.store c e) _ (Ri ak (d.same a _)) ⟨cm,x⟩ (b.keep a) ((D.trans t).trans (KR.same b a))
  refine⟨_,Z,_,_,Z,Z,_,Z,?_⟩;refine cO (λ_=>?_) (λ_=>?_)
  .refine⟨_,Z,_,Z,_,Z,_,Z,_,_,_,_,Z,Z,bG.of j,Z,r,B,Z,y,C,I,λv e T d x b t=>?_⟩
   refine⟨(by show 4<=sizeLine;decide),λp l=>?_⟩;have a:=aH (o:=HO.tup [V.str (Str.ofString "swap"),V.str (v7 i.toNat),V.int c,v]) l;exact k _ (.swap i.toNat c e) _ (Wn ak (d.same a _)) ⟨W,cm,x⟩ (b.keep a) ((D.trans t).trans (KR.same b a))
  refine⟨_,Z,_,_,Z,Z,_,Z,?_⟩;refine cO (λ_=>?_) (λq8=>?_)
  .refine⟨_,Z,_,Z,_,Z,_,_,_,_,Z,Z,bG.of j,Z,r,B,Z,y,C,I,λv e T d x b t=>?_⟩
   refine⟨(by show 3<=sizeLine;decide),λp l=>?_⟩;have a:=aH (o:=HO.tup [V.str (Str.ofString "let"),V.str (v7 i.toNat),v]) l;exact k _ (.yP i.toNat e) _ (Zy ak (d.same a _)) ⟨W,x⟩ (b.keep a) ((D.trans t).trans (KR.same b a))
  refine⟨_,Z,Z,_,Z,?_⟩;refine cO (λ_=>?_) (λq9=>?_)
  .refine⟨_,Z,_,Z,_,_,_,_,Z,Z,bG.of j,Z,r,B,Z,y,C,I,λv e T d x b t=>?_⟩
   refine⟨(by show 2<=sizeLine;decide),λp l=>?_⟩;have a:=aH (o:=HO.tup [V.str (Str.ofString "say"),v]) l;exact k _ (.say e) _ (Zx ak (d.same a _)) x (b.keep a) ((D.trans t).trans (KR.same b a))
  have a2:10<=u:=by
   have h8:¬u<9:=by simpa using q8
   have h9:¬u=9:=λe=>q9 (aaO (by rw[e]));lia
  unfold uN;dsimp only;refine u_ (λσ H'=>∃to:Nat,σ=[some (.ref r),some (.ref z),some (.int n),some (.int u),some (.int ah),some (.str (v7 i.toNat)),some (.int c),some (.int to)]/\H'=H5) (λD' O _=>?_) ?_
  .refine⟨_,Z,_,_,Z,Z,_,Z,?_⟩
   refine cO (λ_=>?_) (λ_=>O _ _ ⟨to,Z,Z⟩);refine⟨_,Z,_,Z,_,_,Z,Z,_,_,Z,?_⟩;refine O _ _ ⟨if n+1>to then n+1 else to,?_,Z⟩
   have:(if (n:Int)+1>(to:Int) then (n:Int)+1 else (to:Int))=((if n+1>to then n+1 else to:Nat):Int):=by
    by_cases h:n+1>to
    .rw[ac_ h,ac_ (by lia)];lia
    .rw[ac9 h,ac9 (by lia)]
   rw[this];rfl
  rintro σ H' ⟨to,rfl,rfl⟩;refine⟨_,Z,Z,_,Z,?_⟩;refine cO (λ_=>?_) (λQo=>?_)
  .refine⟨_,Z,(by show 2<=sizeLine;decide),λp l=>?_⟩
   have a:=aH (o:=HO.tup [V.str (Str.ofString "go"),V.int to]) l;exact k _ (.go to) _ (acs ak) trivial (y.keep a) (D.trans (KR.same y a))
  have J:u-11=0\/u-11=1:=by
   have:¬u=10:=λe=>Qo (aaO (by rw[e]));lia
  refine⟨_,Z,_,_,Z,Z,_,_,_,Z,Z,Wd,aiP _ J,?_⟩;refine⟨_,Z,_,Z,_,_,_,_,Z,Z,bG.of j,Z,r,B,Z,y,C,I,λv e T d x b t=>?_⟩;have X:=t.1 _ _ j g;refine⟨_,Z,_,Z,_,_,_,_,Z,Z,bG.of X,Z,r,B,Z,b,C,I,λv' e' H7 d' Y R7 k7=>?_⟩;refine⟨_,Z,(by show 5<=sizeLine;decide),λp l=>?_⟩;have a:=aH (o:=HO.tup [V.str (Str.ofString "unless"),V.str ⟨#[if u-11=0 then 61 else 60]⟩,v,v',V.int to]) l;have d7:=(d.keep (k7.tups b) _ (xT e)).same a _;refine k _ (.yp (decide (u-11=0)) e e' to) _ (Zu ?_ d7 (d'.same a _)) ⟨x,Y⟩ (R7.keep a) (((D.trans t).trans k7).trans (KR.same R7 a));rw[ak];rcases J with h|h
  .rw[h];rfl
  .rw[h];rfl
structure Pg(τ:Tg)(H:Hp)(p L:Addr)(rs:List Addr)(rws:List (List Rw))(m:Nat):Prop where
 ep:H p=some (.tup [.int m,.ref L])
 eL:H L=some (.lst (rs.map V.ref))
 tL:τ L=[0]
 len:rs.length=rws.length
 row:∀(k:Nat)(r:Addr)(x:List Rw),rs[k]?=some r->rws[k]?=some x->τ r=[0]/\fL H r m x
theorem Pg.mv(g:Pg τ H p L rs rws m)(q:Mv i τ H τ' H'):Pg τ' H' p L rs rws m:=by
 have e:=q.keep _ _ g.eL (.inl g.tL);exact⟨q.tup _ _ g.ep,e.1,e.2.trans g.tL,g.len,λk r x b a=>NZ (g.row k r x b a) q⟩
inductive Ky(K:zzy)(vs:List V)(H:Hp)(Q:VK)(dX:XK):Prop|m:∀(r:Addr)(τ:Tg),vs=[.ref r]->RT τ H r->(∀(p L:Addr)(rs:List Addr)(rws:List (List Rw))(m:Nat)(τ':Tg)(H':Hp),Pg τ' H' p L rs rws m->0<rws.length->rws.length<=8->0<m->m<=20->(∀x∈rws,x.length<=60)->RT τ' H' r->(∀x u,H x=some u->τ' x=τ x)->Kp r H H'->Q (.ref p) H')->Ky K vs H Q dX
theorem YG(F:fZ K "_law_program" "_law_program" tY f fd)(b_:FnAt P w K mg base 1 "_law_draw" ["reel","many"] (kO K))(e3:FnAt P w K mg base 4 "_law_row" ["reel","sizes","at"] (Tn K))(Bt:nR mg):bR P w K mg base iB 5 f fd ["reel"] (Ky K):=by
 refine F.ok gP (λvs H Q E h=>?_) (λe7 A c8 s H vs Q E hr h=>?_)
 .obtain⟨r,τ,rfl,_⟩:=h
  rfl
 .obtain⟨r,τ,rfl,T,k⟩:=h
  refine⟨_,(aB (bH (i:=1) gP.nd rfl (Or.inl rfl) (bN b_ (hr.mono (by decide)) (by rfl) (aj (pv 0) (aj aG au))))
   (aB (bH (i:=2) gP.nd rfl (Or.inr rfl) (bY iR aG (bN b_ (hr.mono (by decide)) (by rfl) (aj (pv 0) (aj (aO (aL (K:=K) rfl) (cJ (aj aG (aj aG (aj aG au)))) (bN b_ (hr.mono (by decide)) (by rfl) (aj (pv 0) (aj aG au))) (λ_ _=>rfl)) au)))))
   (aB (bH (i:=3) gP.nd rfl (Or.inr rfl) (aO (aL (K:=K) rfl) (cJ (aj aG (aj aG au))) (bN b_ (hr.mono (by decide)) (by rfl) (aj (pv 0) (aj aG au))) (λ_ _=>rfl)))
   (aB (bH (i:=4) gP.nd rfl (Or.inl rfl) (cJ au))
   (aB (iQ PassesOwn.never rfl (cP (by rfl) Bt.dI (aj (bY iR aG (bN b_ (hr.mono (by decide)) (by rfl) (aj (pv 0) (aj (aO (aL (K:=K) rfl) (cJ (aj aG (aj aG au))) (dB yc (by rfl) Bt.J9 Ci (aj (cZ aah (pv 1) aG (bA _)) au)) (λ_ _=>rfl)) au)))) au)) (bK (i:=5) gP.nd rfl (Or.inl rfl))
   (aB (bH (i:=6) gP.nd rfl (Or.inr rfl) (bN b_ (hr.mono (by decide)) (by rfl) (aj (pv 0) (aj (aO (aL (K:=K) rfl) (cJ (aj aG (aj aG au))) (dB yc (by rfl) Bt.J9 Ci (aj (cZ eV (pv 1) aG (bA _)) au)) (λ_ _=>rfl)) au))))
   (aJ (cN (dO (K:=K) rfl (pv 4) (aj (dZ rfl (N:=["at","reel","size","many","boxes"]) (own:=["at"]) (caps:=[0,6,2,3]) (bB.of (by kernel_rfl)) (cP (by rfl) Bt.dI (aj (pv 6) au)) (λ_ _ _ _=>(bK (i:=0) (show List.Nodup (["at","reel","size","many","boxes"]:List Str) by decide +kernel) rfl (Or.inl rfl))) (λ_ _ _ _=>dF) (λ_ _ _ _=>(bN e3 (hr.mono (by decide)) (by rfl) (aj (pv 1) (aj (cJ (aj (pv 2) (aj (pv 3) (aj (pv 4) au)))) (aj (pv 0) au)))))) au))))))
   (aJ (bw (dY (aj (pv 2) (aj (pv 4) au)))))))))),?_⟩
  refine⟨_,Z,r,8,Z,T.R,by decide,by decide,λgreat H1 g0 g1 R1 k1=>?_⟩;have T1:=T.draw k1 R1;refine⟨_,Z,(by show 3<=sizeLine;decide),λl hl=>?_⟩;have sl:=aH (o:=HO.lst [V.int 2,V.int 3,V.int 20]) hl;have d1:l≠r:=R1.ne hl;refine⟨_,Z,r,3,Z,R1.keep sl,by decide,by decide,λz H2 z0 z1 R2 k2=>?_⟩;have T2:=(T1.same sl).draw k2 R2
  obtain⟨S,eb,b0,b1⟩:∃S:Int,wG [V.int 2,V.int 3,V.int 20] z=some (.int S)/\0<S/\S<=20:=by
   have:z=0\/z=1\/z=2:=by lia
   rcases this with rfl|rfl|rfl
   .exact⟨2,Z,by decide,by decide⟩
   .exact⟨3,Z,by decide,by decide⟩
   .exact⟨20,Z,by decide,by decide⟩
  refine⟨_,_,_,_,Z,Z,bG.of (k2.1 _ _ ak d1),eb,r,S,Z,R2,b0,by lia,λi H3 i0 i1 R3 k3=>⟨_,_,Z,Z,?_⟩⟩;have T3:=T2.draw k3 R3;obtain⟨m,em,m0,b6⟩:∃m:Nat,(1:Int)+i=m/\0<m/\m<=20:=⟨(1+i).toNat,by lia,by lia,by lia⟩;dsimp only[bU];rw[em];refine⟨(by show 2<=sizeLine;decide),λl4 c2=>?_⟩;have a1:=aH (o:=HO.lst [V.int 2,V.int 8]) c2;have e2:l4≠r:=R3.ne c2;refine⟨_,Z,r,2,Z,R3.keep a1,by decide,by decide,λz4 H5 e5 e4 R5 k5=>?_⟩;have T5:=(T3.same a1).draw k5 R5
  obtain⟨bx,d5,e0,d7⟩:∃S:Int,wG [V.int 2,V.int 8] z4=some (.int S)/\0<S/\S<=8:=by
   have:z4=0\/z4=1:=by lia
   rcases this with rfl|rfl
   .exact⟨2,Z,by decide,by decide⟩
   .exact⟨8,Z,by decide,by decide⟩
  refine⟨_,_,_,_,Z,Z,bG.of (k5.1 _ _ ak e2),d5,?_⟩;have b9:Kp r H H5:=((((k1.1.trans (Kp.of_same sl)).trans k2.1).trans k3.1).trans (Kp.of_same a1)).trans k5.1;refine⟨(by show 0<=sizeLine;decide),λa ha=>?_⟩;have sa:=aH (o:=HO.lst []) ha;have b4:a≠r:=R5.ne ha;have c3:H a=none:=zA b9 b4 ha;have T6:=T5.claim (t:=[0]) sa ha ⟨_,ak⟩;have Ql:∀x u,H x=some u->aQ τ a [0] x=τ x:=λx u e=>aU (aA e c3);have b3:aQ τ a [0] a=[0]:=bF;have b8:=b9.trans (Kp.of_same sa);have c5:(upd H5 a (.lst [])) a=some (.lst []):=ak;generalize (upd H5 a (.lst []))=H6 at sa T6 b8 c5 ⊢;generalize aQ τ a [0]=c7 at T6 Ql b3;refine⟨_,Z,(by show 2<=sizeLine;decide),λl7 d4=>?_⟩;have M:=aH (o:=HO.lst [V.int 3,V.int 7]) d4;refine⟨_,Z,_,_,Z,Z,.inr ⟨_,Z,?_⟩⟩
  obtain⟨nn,en,n0,n1⟩:∃nn:Int,wG [V.int 3,V.int 7] (if decide (5<great) then 1 else 0)=some (.int nn)/\0<nn/\nn<=7:=by
   cases decide (5<great)
   .exact⟨3,Z,by decide,by decide⟩
   .exact⟨7,Z,by decide,by decide⟩
  refine⟨_,_,_,_,Z,Z,bG.of ak,en,r,nn,Z,(T6.same M).R,n0,by lia,λcnt H7 c0 c1 R7 k7=>⟨_,_,Z,Z,_,Z,by lia,by lia,?_⟩⟩;have T7:=(T6.same M).draw k7 R7;have d6:=k7.1 _ _ (M _ _ c5) b4
  refine gD (lo:=0) (λj σ U=>∃(v w':Option V) (b:Tg) (G:List Addr) (c:List (List Rw)),σ=[some (.ref r),some (.int great),some (.int m),some (.int bx),some (.ref a),v,w']/\RT b U r/\U a=some (.lst (G.map V.ref))/\b a=[0]/\G.length=c.length/\c.length=j/\(∀x∈c,x.length<=60)/\(∀(k:Nat)(q:Addr)(x:List Rw),G[k]?=some q->c[k]?=some x->q≠a/\b q=[0]/\fL U q m x)/\(∀x u,H x=some u->b x=τ x)/\Kp r H U)
   ⟨none,none,c7,[],[],Z,T7,d6,b3,Z,Z,by simp,λk q x e=>by simp at e,Ql,(b8.trans (Kp.of_same M)).trans k7.1⟩ ?_ ?_
  .rintro j σ U hj ⟨v,w',b,G,c,rfl,Tc,a7,J,lr,lj,a2,R,Xu,a4⟩
   refine⟨_,Z,(by show 2<=sizeLine;decide),λl8 d3=>?_⟩;have Z7:=aH (o:=HO.lst [V.int 9,V.int 61]) d3;refine⟨_,Z,Z,.inr ⟨_,Z,?_⟩⟩
   obtain⟨nz,ez,d0,e6⟩:∃nn:Int,wG [V.int 9,V.int 61] (if decide (V.int great=V.int 7) then 1 else 0)=some (.int nn)/\0<nn/\nn<=61:=by
    cases decide (V.int great=V.int 7)
    .exact⟨9,Z,by decide,by decide⟩
    .exact⟨61,Z,by decide,by decide⟩
   refine⟨_,_,_,_,Z,Z,bG.of ak,ez,r,nz,Z,(Tc.same Z7).R,d0,by lia,λsz H8 s0 s1 R8 k8=>?_⟩;have T8:=(Tc.same Z7).draw k8 R8;have Ow:∀x o,U x=some o->b x≠[]->H8 x=some o:=λx o e t=>(Tc.same Z7).keep k8 (Z7 _ _ e) t;have t8:∀x xs,U x=some (.tup xs)->H8 x=some (.tup xs):=λx xs e=>k8.tups (Tc.same Z7).R _ _ (Z7 _ _ e);have a8:=Ow _ _ a7 (by rw[J];simp);have b7:=(a4.trans (Kp.of_same Z7)).trans k8.1;refine⟨_,Z,.inl ⟨Z,_,bG.of a8⟩,_,Z,sz,Z,by lia,by lia,λD Y=>?_⟩;have sD:=aH (o:=HO.lst []) Y;have b5:D≠r:=R8.ne Y;have c4:H D=none:=zA b7 b5 Y;have O:D≠a:=(aA a8 Y).symm;have TD:=T8.claim (t:=[0]) sD Y ⟨_,ak⟩
   have b2:∀x u,U x=some u->aQ b D [0] x=b x:=λx u e=>by
    by_cases z:x=D
    .subst z
     by_cases t:b x=[]
     .by_cases zr:x=r
      .exact ac' zr b5
      .have:=k8.1 _ _ (Z7 _ _ e) zr
       rw[Y] at this;cases this
     .have:=Ow _ _ e t
      rw[Y] at this;cases this
    .exact aU z
   have W7:aQ b D [0] D=[0]:=bF;have L:aQ b D [0] a=[0]:=by rw[aU O.symm];exact J
   have a9:∀x u,H x=some u->aQ b D [0] x=τ x:=λx u e=>by rw[aU (aA e c4)];exact Xu x u e
   have Zg:∀(k:Nat)(q:Addr)(x:List Rw),G[k]?=some q->c[k]?=some x->q≠a/\q≠D/\aQ b D [0] q=[0]/\fL H8 q m x:=λk q x d C=>by
    obtain⟨n1,t1,c6⟩:=R k q x d C;have rr:=c6;obtain⟨ts,X,_⟩:=rr;have d2:=Ow _ _ X (by rw[t1];simp);exact⟨n1,aA d2 Y,by rw[b2 _ _ X];exact t1,c6.keep (λo e=>Ow _ _ e (by rw[t1];simp)) t8⟩
   generalize aQ b D [0]=a0 at TD b2 W7 L a9 Zg;refine jD (lo:=0) (n:=sz.toNat) (λi σ Hd=>∃(v:Option V) (refs:List V) (g:List Rw),σ=[v,some (.ref r),some (.int sz),some (.int m),some (.int bx)]/\RT a0 Hd r/\Hd D=some (.lst refs)/\aR Hd refs (g.map n_)/\(∀x∈g,I_ m x)/\g.length=i/\Hd a=some (.lst (G.map V.ref))/\(∀(k:Nat)(q:Addr)(x:List Rw),G[k]?=some q->c[k]?=some x->fL Hd q m x)/\Kp r H Hd) ?_ ?_ ?_
   .exact⟨none,[],[],Z,TD,ak,by simp[aR],by simp,Z,sD _ _ a8,λk q x d C=>((Zg k q x d C).2.2.2).same sD,b7.trans (Kp.of_same sD)⟩
   .rintro i σ Hd hi ⟨v,refs,g,rfl,Td,W_,dd,od,ld,I,a5,a3⟩
    dsimp only[bU,yK];rw[ac_ rfl];refine⟨_,Z,_,Z,_,Z,_,Z,(by show 3<=sizeLine;decide),λz hz=>?_⟩;have B:=aH (o:=HO.lst [V.int sz,V.int m,V.int bx]) hz;have c9:z≠r:=Td.R.ne hz;refine⟨_,Z,r,z,sz,bx,m,i,by rw[Int.zero_add];rfl,Td.R.keep B,ak,c9,s0,by lia,m0,b6,e0,d7,λy x H9 dy xo R9 k9=>?_⟩;have T9:=(Td.same B).draw k9 R9;have VD:∀x o,Hd x=some o->a0 x≠[]->H9 x=some o:=λx o e t=>(Td.same B).keep k9 (B _ _ e) t;have t9:∀x xs,Hd x=some (.tup xs)->H9 x=some (.tup xs):=λx xs e=>k9.tups (Td.same B).R _ _ (B _ _ e);have a6:=VD _ _ W_ (by rw[W7];simp);have tu:∀a W,H9 a=some (.tup W)->(upd H9 D (.lst (refs++[y]))) a=some (.tup W):=λa W e=>by rw[aF (dD e a6 (by intro z;cases z))];exact e
    have ll:refs.length=g.length:=by rw[dd.length,aae]
    refine⟨refs,a6,(by rw[ll,sizeLine_eq];lia),_,refs++[y],g++[x],Z,T9.set a6 (by rw[W7];simp),ak,?_,?_,by simp[ld],by rw[aF O.symm];exact VD _ _ I (by rw[L];simp),?_,?_⟩
    .rw[ab1]
     exact iW ((dd.kp t9).kp tu) (dy.keep tu _ (GJ x))
    .intro q X
     rcases acG.mp X with X|X
     .exact od q X
     .rw[acQ.mp X];exact xo
    .intro kk q x' d C
     obtain⟨_,n2,t2,_⟩:=Zg kk q x' d C;exact(a5 kk q x' d C).keep (λo e=>by rw[aF n2];exact VD _ _ e (by rw[t2];simp)) (λy W e=>tu _ _ (t9 _ _ e))
    .intro x' o e n'
     rw[aF (aA e c4)];exact k9.1 _ _ (B _ _ (a3 _ _ e n')) n'
   .rintro σ Hd ⟨v,refs,g,rfl,Td,W_,dd,od,ld,I,a5,a3⟩
    refine⟨_,_,_,Z,Z,I,(by rw[aae,lr,lj,sizeLine_eq];lia),?_⟩;have tu:∀x W,Hd x=some (.tup W)->(upd Hd a (.lst (G.map V.ref++[V.ref D]))) x=some (.tup W):=λx W e=>by rw[aF (dD e I (by intro z;cases z))];exact e
    refine⟨_,_,a0,G++[D],c++[g],Z,Td.set I (by rw[L];simp),by rw[ak,ab1];rfl,L,by simp[lr],by simp[lj],?_,?_,a9,λx o e n'=>by rw[aF (aA e c3)];exact a3 _ _ e n'⟩
    .intro x hx
     rcases acG.mp hx with hx|hx
     .exact a2 x hx
     .rw[acQ.mp hx];lia
    .intro kk q x d C
     rcases lV C with C|⟨ek,rfl⟩
     .have kl:=(aak.mp C).1
      rw[abU (by rw[lr];exact kl)] at d;obtain⟨n1,_,t1,_⟩:=Zg kk q x d C;exact⟨n1,t1,(a5 kk q x d C).keep (λo e=>by rw[aF n1];exact e) tu⟩
     .have e1:q=D:=by
       rcases lV d with d|⟨_,d⟩
       .have:=(aak.mp d).1;rw[lr] at this;lia
       .exact d
      subst e1;exact⟨O,W7,refs,by rw[aF O];exact W_,dd.kp tu,od,by lia⟩
  .rintro σ U ⟨v,w',b,G,c,rfl,Tc,a7,J,lr,lj,a2,R,Xu,a4⟩
   refine⟨_,Z,_,Z,(by show 2<=sizeLine;decide),λp hp=>?_⟩;have sp:=aH (o:=HO.tup [V.int m,V.ref a]) hp;exact k p a G c m b _ ⟨ak,sp _ _ a7,J,lr,λk q x d C=>⟨(R k q x d C).2.1,((R k q x d C).2.2).same sp⟩⟩ (by lia) (by lia) m0 b6 a2 (Tc.same sp) Xu (a4.trans (Kp.of_same sp))
def NumV(τ:Tg)(H:Hp)(v:V)(ns:List Int)(m:Nat):Prop:=qO m ns/\((v=.non/\ns=List.replicate m 0) \/ ∃l,v=.ref l/\τ l=[0]/\H l=some (.lst (ns.map V.int)))
theorem NumV.mv(h:NumV τ H v ns m)(q:Mv i τ H τ' H'):NumV τ' H' v ns m:=by
 obtain⟨g,h⟩:=h;refine⟨g,?_⟩;rcases h with h|⟨l,e,t,a⟩
 .exact .inl h
 .have:=q.keep _ _ a (.inl t)
  exact .inr ⟨l,e,this.2.trans t,this.1⟩
theorem abN(m:Nat):qO m (List.replicate m 0):=⟨by rw[List.length_replicate],λx a=>by rw[(List.mem_replicate.mp a).2];exact⟨by decide,by decide⟩⟩
theorem rep0(m:Nat):(List.replicate m [V.int 0]).flatten=(List.replicate m (0:Int)).map V.int:=by
 rw[List.map_replicate]
 induction m with
 | zero=>rfl
 | succ n a=>rw[List.replicate_succ,List.flatten_cons,a,List.replicate_succ];rfl
inductive Kz(K:zzy)(vs:List V)(H:Hp)(Q:VK)(dX:XK):Prop|m:∀(r:Addr)(τ:Tg)(m:Nat),vs=[.ref r,.int m]->RT τ H r->m<=20->(∀(v:V)(ns:List Int)(τ':Tg)(H':Hp),NumV τ' H' v ns m->RT τ' H' r->(∀x u,H x=some u->τ' x=τ x)->Kp r H H'->Q v H')->Kz K vs H Q dX
theorem YH(F:fZ K "_law_numbers" "_law_numbers" tZ f fd)(b_:FnAt P w K mg base 1 "_law_draw" ["reel","many"] (kO K))(Bt:nR mg):bR P w K mg base iB 2 f fd ["reel","many"] (Kz K):=by
 refine F.ok IK (λvs H Q E h=>?_) (λa1 A S s H vs Q E hr h=>?_)
 .obtain⟨r,c,m,rfl,_⟩:=h
  rfl
 .obtain⟨r,c,m,rfl,T,a0,k⟩:=h
  refine⟨_,(aB (cj (bD eV (bN b_ (hr.mono (by decide)) (by rfl) (aj (pv 0) (aj aG au))) aG (bA _)) (aJ (bw j8)) bJ)
   (aJ (bw (dZ rfl (N:=["k","reel"]) (own:=["k"]) (caps:=[0]) (bB.of (by kernel_rfl)) (cP (by rfl) Bt.dI (aj (pv 1) au)) (λ_ _ _ _=>(bK (i:=0) (show List.Nodup (["k","reel"]:List Str) by decide +kernel) rfl (Or.inl rfl))) (λ_ _ _ _=>dF) (λ_ _ _ _=>(bN b_ (hr.mono (by decide)) (by rfl) (aj (pv 1) (aj (aO (aL (K:=K) rfl) (cJ (aj aG (aj aG au))) (bN b_ (hr.mono (by decide)) (by rfl) (aj (pv 1) (aj aG au))) (λ_ _=>rfl)) au)))))))),?_⟩
  refine⟨_,Z,r,2,Z,T.R,by decide,by decide,λz H1 z0 z1 R1 M=>⟨Z,_,Z,?_⟩⟩;have T1:=T.draw M R1;refine cO (λ_=>?_) (λ_=>?_)
  .exact k .non _ c H1 ⟨abN m,.inl ⟨Z,Z⟩⟩ T1 (λx u e=>rfl) M.1
  refine⟨_,Z,_,Z,by lia,by lia,λD O=>?_⟩;rw[acd];have sD:=aH (o:=HO.lst []) O;have X:D≠r:=R1.ne O;have G:H D=none:=zA M.1 X O;have TD:=T1.claim (t:=[0]) sD O ⟨_,ak⟩;have J:aQ c D [0] D=[0]:=bF;have j:∀x u,H x=some u->aQ c D [0] x=c x:=λx u e=>aU (aA e G);generalize aQ c D [0]=g at TD J j;refine jD (lo:=0) (n:=m) (λi R Hd=>∃(v:Option V) (a:List Int),R=[v,some (.ref r)]/\RT g Hd r/\Hd D=some (.lst (a.map V.int))/\(∀x∈a,0<=x/\x<1000)/\a.length=i/\Kp r H Hd) ?_ ?_ ?_
  .exact⟨none,[],Z,TD,ak,by simp,Z,M.1.trans (Kp.of_same sD)⟩
  .rintro i R Hd hi ⟨v,a,rfl,d,W_,U,ld,b⟩
   dsimp only[bU,yK];rw[ac_ rfl];refine⟨_,Z,(by show 2<=sizeLine;decide),λl hl=>?_⟩;have p:=aH (o:=HO.lst [V.int 4,V.int 1000]) hl;have W:l≠r:=d.R.ne hl;refine⟨_,Z,r,2,Z,(d.same p).R,by decide,by decide,λq H2 q0 q1 R2 L=>?_⟩;have T2:=(d.same p).draw L R2
   obtain⟨I,eb,b0,b1⟩:∃I:Int,wG [V.int 4,V.int 1000] q=some (.int I)/\0<I/\I<=1000:=by
    have:q=0\/q=1:=by lia
    rcases this with rfl|rfl
    .exact⟨4,Z,by decide,by decide⟩
    .exact⟨1000,Z,by decide,by decide⟩
   refine⟨_,_,_,_,Z,Z,bG.of (L.1 _ _ ak W),eb,r,I,Z,R2,b0,by lia,λy H3 y0 y1 R3 k3=>?_⟩;have T3:=T2.draw k3 R3;have C:=T2.keep k3 ((d.same p).keep L (p _ _ W_) (by rw[J];simp)) (by rw[J];simp);refine⟨_,C,(by rw[aae,sizeLine_eq];lia),_,a++[y],Z,T3.set C (by rw[J];simp),by rw[ak,ab1];rfl,?_,by simp[ld],λx o e Y=>by rw[aF (aA e G)];exact k3.1 _ _ (L.1 _ _ (p _ _ (b _ _ e Y)) Y) Y⟩;intro x B;rcases acG.mp B with B|B
   .exact U x B
   .rw[acQ.mp B];exact⟨y0,by lia⟩
  .rintro R Hd ⟨v,a,rfl,d,W_,U,ld,b⟩
   exact k _ a g Hd ⟨⟨by rw[ld],U⟩,.inr ⟨D,Z,J,W_⟩⟩ d j b
def kE(hs:List bO)(k:Nat):Bool:=match hs[k]? with
 | some s=>decide (s.st = "waits")
 | none=>false
def uJ(hs:List bO):List Nat:=(List.range hs.length).filter (kE hs)
theorem LC{α:Type}(p:Nat->Bool)(f:Nat->α)(n:Nat):(List.range n).filterMap (λi=>if p i then some (f i) else none)=((List.range n).filter p).map f:=by
 induction n with
 | zero=>rfl
 | succ n a=>
   rw[d8,a,List.range_succ,ac7,ab1];congr 1;cases h:p n<;>simp[h]
theorem PX{z:Nat}(h:(uJ hs)[z]?=some k):∃s,hs[k]?=some s/\s.st = "waits" :=by
 have m:=aaK h;have:=(acY.mp m).2;unfold kE at this;cases e:hs[k]? with
 | none=>rw[e] at this;cases this
 | some s=>rw[e] at this;exact⟨s,Z,aaT this⟩
theorem Ir(h:bG K H a xs)(k:∀o,H a=some o->H' a=some o):bG K H' a xs:=by
 rcases h with (h|⟨o,h⟩)|h
 .exact .inl (.inl (k _ h))
 .exact .inl (.inr ⟨o,k _ h⟩)
 .exact .inr h
structure Dr(τ:Tg)(r:Addr)(H H':Hp):Prop where
 k:∀x o,H x=some o->τ x≠[]->H' x=some o
 t:∀x xs,H x=some (.tup xs)->H' x=some (.tup xs)
 p:Kp r H H'
theorem Dr.draw{r:Addr}(T:RT τ H r)(k:KR r H H'):Dr τ r H H':=⟨λx o e n=>T.keep k e n,λx a e=>k.tups T.R _ _ e,k.1⟩
theorem Dr.mv{r:Addr}(d:Dr τ r H H'):Mv i τ H τ H':=⟨λx o e t=>⟨d.k x o e (by
 rcases t with t|t
 .rw[t];simp
 .intro z;rw[z] at t;cases t),Z⟩,d.t⟩
abbrev mD:=Int×Str×Int
def tD(x:mD):PyData:= .tuple [.int x.1,.str x.2.1,.int x.2.2]
theorem Lw(x:mD):CK (tD x)=true:=Z
theorem Zw{t:Addr}{x:mD}(h:H t=some (.tup [.int x.1,.str x.2.1,.int x.2.2])):Dat H (.ref t) (tD x):=by
 simp only[tD,Dat];exact⟨t,_,Z,h,by simp only[aR,Dat,and_self]⟩
def yH(H:Hp)(a:Addr)(ws:List mD):Prop:=∃vs,H a=some (.lst vs)/\aR H vs (ws.map tD)
theorem yH.same{ws:List mD}(h:yH H a ws)(k:Same H H'):yH H' a ws:=by
 obtain⟨b,e,d⟩:=h;exact⟨b,k _ _ e,aR.keep k.tups _ (cH _ Lw ws) d⟩
def RM(x y:mD):Bool:= !decide (V.int x.1=V.int y.1)&&(decide (V.int x.2.2=V.int y.2.2)&&(!decide (V.str x.2.1=V.str "load") || !decide (V.str y.2.1=V.str "load")))
inductive wV(K:zzy)(vs:List V)(H:Hp)(Q:VK)(dX:XK):Prop|m:∀(a b:Addr)(x y:mD),vs=[.ref a,.ref b]->H a=some (.tup [.int x.1,.str x.2.1,.int x.2.2])->H b=some (.tup [.int y.1,.str y.2.1,.int y.2.2])->Q (.bl (RM x y)) H->wV K vs H Q dX
theorem YJ(F:fZ K "_law_meet" "_law_meet" Ge f fd):bR P w K mg base iB 1 f fd ["one","other"] (wV K):=by
 refine F.ok Tw (λl H Q E h=>?_) (λm A c s H l Q E n h=>?_)
 .obtain⟨a,b,x,y,rfl,_⟩:=h
  rfl
 .obtain⟨a,b,x,y,rfl,e,d,k⟩:=h
  refine⟨_,(aJ (bw (j9 (cZ pP (aO (aX (K:=K) rfl) (pv 0) aG (λ_ _=>rfl)) (aO (aX (K:=K) rfl) (pv 1) aG (λ_ _=>rfl)) (bA _)) (j9 (cZ eV (aO (aX (K:=K) rfl) (pv 0) aG (λ_ _=>rfl)) (aO (aX (K:=K) rfl) (pv 1) aG (λ_ _=>rfl)) (bA _)) (jA (Uu (cZ pP (aO (aX (K:=K) rfl) (pv 0) aG (λ_ _=>rfl)) bT (bA _)) (jA (cZ pP (aO (aX (K:=K) rfl) (pv 1) aG (λ_ _=>rfl)) bT (bA _))))))))),?_⟩;show Xx _ _ [some (.ref a),some (.ref b)] H;unfold RM at k;refine⟨_,Z,_,_,_,_,Z,Z,cD.of e,Z,_,Z,_,_,_,_,Z,Z,cD.of d,Z,Z,_,Z,?_⟩
  by_cases j:V.int x.1=V.int y.1
  .rw[aaO j] at k ⊢
   exact k
  rw[aaQ j] at k ⊢;refine⟨_,Z,_,_,_,_,Z,Z,cD.of e,Z,_,Z,_,_,_,_,Z,Z,cD.of d,Z,Z,_,Z,?_⟩
  by_cases i:V.int x.2.2=V.int y.2.2
  .rw[aaO i] at k ⊢
   refine⟨_,Z,_,_,_,_,Z,Z,cD.of e,Z,Z,_,Z,?_⟩
   by_cases g:V.str x.2.1=V.str "load"
   .rw[aaO g] at k ⊢
    exact⟨_,Z,_,_,_,_,Z,Z,cD.of d,Z,Z,k⟩
   .rw[aaQ g] at k ⊢
    exact k
  .rw[aaQ i] at k ⊢
   exact k
theorem Ot{x y:mD}:RM x y=true↔x.1≠y.1/\x.2.2=y.2.2/\(x.2.1 ≠ "load" \/ y.2.1 ≠ "load"):=by
 unfold RM;simp only[acg,Bool.or_eq_true,Bool.not_eq_true',decide_eq_false_iff_not,decide_eq_true_eq,V.int.injEq,V.str.injEq,ne_eq]
theorem zW{ws:List mD}{x:mD}(h:yH H a ws)(e:ws[j]?=some x):∃vs b,H a=some (.lst vs)/\vs.length=ws.length/\vs[j]?=some (.ref b)/\H b=some (.tup [.int x.1,.str x.2.1,.int x.2.2]):=by
 obtain⟨vs,l,d⟩:=h;obtain⟨v,ev,g⟩:=d.getD (i:=j) (d:=tD x) (by rw[aam,e];rfl);have ln:=d.length;simp only[tD,Dat] at g;obtain⟨b,f,rfl,k,c⟩:=g
 have:f=[.int x.1,.str x.2.1,.int x.2.2]:=by
  match f,c with
  | [p,q,r],c=>
    simp only[aR,Dat] at c;obtain⟨rfl,rfl,rfl,_⟩:=c;rfl
 subst this;exact⟨vs,b,l,by simpa using ln,ev,k⟩
def rB(ws:List mD)(i j:Nat):Prop:=i<j /\ ∃x y,ws[i]?=some x/\ws[j]?=some y/\(x.1=y.1\/RM x y=true)
structure E_(H:Hp)(r:Addr)(ws:List mD)(T:Nat->Prop):Prop where
 ex:∃bs:List Bool,H r=some (.lst (bs.map V.bl))/\bs.length=ws.length /\ ∀x,bs[x]?=some true↔T x
theorem E_.same{r:Addr}{ws:List mD}{T:Nat->Prop}(h:E_ H r ws T)(k:Same H H'):E_ H' r ws T:=let ⟨bs,e,q⟩:=h.ex;⟨⟨bs,k _ _ e,q⟩⟩
theorem E_.iff{r:Addr}{ws:List mD}{T:Nat->Prop}(h:E_ H r ws T)(k:∀x,T x↔T' x):E_ H r ws T':=let ⟨bs,e,l,q⟩:=h.ex;⟨⟨bs,e,l,λx=>(q x).trans (k x)⟩⟩
theorem E_.get{r:Addr}{ws:List mD}{T:Nat->Prop}(h:E_ H r ws T)(l:m<ws.length):∃(vs:List V) (b:Bool),H r=some (.lst vs)/\vs.length=ws.length/\vs[m]?=some (.bl b)/\(b=true↔T m):=by
 obtain⟨bs,e,c,q⟩:=h.ex;have a:bs[m]?=some (bs[m]'(by lia)):=aaj _;refine⟨_,_,e,by simpa using c,by rw[aam,a];rfl,?_⟩;rw[←q m,a,Option.some.injEq]
theorem E_.put{r:Addr}{ws:List mD}{T:Nat->Prop}{c:Bool}(h:E_ H r ws T)(e:H r=some (.lst vs))(l:m<ws.length)(f:c=true↔T' m)(k:∀x,x≠m->(T x↔T' x)):E_ (upd H r (.lst (vs.set m (.bl c)))) r ws T':=by
 obtain⟨bs,b,d,q⟩:=h.ex;rw[e] at b;cases b;refine⟨⟨bs.set m c,by rw[ak,List.map_set],by simpa using d,λx=>?_⟩⟩
 by_cases a:x=m
 .subst a
  rw[List.getElem?_set_self (by lia),Option.some.injEq];exact f
 .rw[List.getElem?_set_ne (Ne.symm a)]
  exact(q x).trans (k x a)
structure Dg(H:Hp)(t:Addr)(ws:List mD)(n:Nat):Prop where
 ex:∃rs:List Addr,H t=some (.lst (rs.map V.ref))/\rs.length=n/\(∀r∈rs,r≠t) /\ ∀j r,rs[j]?=some r->E_ H r ws λx=>Ah (rB ws) x j
theorem Dg.same{H H':Hp}{t:Addr}{ws:List mD}{n:Nat}(h:Dg H t ws n)(k:Same H H'):Dg H' t ws n:=let ⟨a,e,l,d,q⟩:=h.ex;⟨⟨a,k _ _ e,l,d,λj r h=>(q j r h).same k⟩⟩
theorem Dg.get{H:Hp}{t:Addr}{ws:List mD}{n i m:Nat}(h:Dg H t ws n)(hi:i<n)(f:m<ws.length):∃(vs us:List V) (r:Addr) (b:Bool),H t=some (.lst vs)/\vs[i]?=some (.ref r)/\H r=some (.lst us)/\us[m]?=some (.bl b)/\(b=true↔Ah (rB ws) m i):=by
 obtain⟨a,e,l,d,q⟩:=h.ex;have c:a[i]?=some (a[i]'(by lia)):=aaj _;obtain⟨us,b,k,_,j,g⟩:=(q i _ c).get f;exact⟨_,us,_,b,e,by rw[aam,c];rfl,k,j,g⟩
def RB(ws:List mD)(j a x:Nat):Prop:=Ah (rB ws) x j/\(a<=x \/ ∃y,a<=y/\Ah (rB ws) x y/\Ah (rB ws) y j)
theorem DN{ws:List mD}:∀i j,rB ws i j->i<j:=λ_ _ h=>h.1
theorem acI{ws:List mD}{x:Nat}:¬RB ws j j x:=by
 rintro⟨a,b|⟨y,b,_,c⟩⟩
 .have:=a.lt DN;lia
 .have:=c.lt DN;lia
theorem ZL{ws:List mD}{x:Nat}:RB ws j 0 x↔Ah (rB ws) x j:=⟨λh=>h.1,λh=>⟨h,.inl (Nat.zero_le _)⟩⟩
theorem acJ{ws:List mD}(l:i<j):(RB ws j (i+1) i\/rB ws i j)↔Ah (rB ws) i j:=by
 rw[TV DN l];constructor
 .rintro(⟨_,b|⟨y,b,c,d⟩⟩|h)
  .lia
  .exact .inr ⟨y,c.lt DN,d.lt DN,c,d⟩
  .exact .inl h
 .rintro(h|⟨y,p,q,c,d⟩)
  .exact .inr h
  .exact .inl ⟨c.trans d,.inr ⟨y,p,c,d⟩⟩
theorem ae'{ws:List mD}(n:¬Ah (rB ws) i j)(x:Nat):RB ws j (i+1) x↔RB ws j i x:=by
 constructor
 .rintro⟨a,b|⟨y,b,c⟩⟩
  .exact⟨a,.inl (by lia)⟩
  .exact⟨a,.inr ⟨y,by lia,c⟩⟩
 .rintro⟨a,b|⟨y,b,c,d⟩⟩
  .rcases Nat.lt_or_ge i x with h|h
   .exact⟨a,.inl h⟩
   .have:x=i:=by lia
    subst this;exact ac' a n
  .rcases Nat.lt_or_ge i y with h|h
   .exact⟨a,.inr ⟨y,h,c,d⟩⟩
   .have:y=i:=by lia
    subst this;exact ac' d n
theorem acH{ws:List mD}(n:Ah (rB ws) i j)(x:Nat):(RB ws j (i+1) x\/x=i\/(x<i/\Ah (rB ws) x i))↔RB ws j i x:=by
 constructor
 .rintro(⟨a,b|⟨y,b,c⟩⟩|rfl|⟨l,a⟩)
  .exact⟨a,.inl (by lia)⟩
  .exact⟨a,.inr ⟨y,by lia,c⟩⟩
  .exact⟨n,.inl (aaw _)⟩
  .exact⟨a.trans n,.inr ⟨i,aaw _,a,n⟩⟩
 .rintro⟨a,b|⟨y,b,c,d⟩⟩
  .rcases Nat.lt_or_ge i x with h|h
   .exact .inl ⟨a,.inl h⟩
   .exact .inr (.inl (by lia))
  .rcases Nat.lt_or_ge i y with h|h
   .exact .inl ⟨a,.inr ⟨y,h,c,d⟩⟩
   .have:y=i:=by lia
    subst this;exact .inr (.inr ⟨c.lt DN,c⟩)
theorem nZ{r:Addr}{o:HO}(s:Same H H')(h:H r=none):Same H (upd H' r o):=λb u e=>by
 rw[aF (aA e h)];exact s _ _ e
inductive Tr(K:zzy)(vs:List V)(H:Hp)(Q:VK)(dX:XK):Prop|m:∀(w:Addr)(ws:List mD),vs=[.ref w]->yH H w ws->ws.length<=50->(∀t H',Same H H'->Dg H' t ws ws.length->Q (.ref t) H')->Tr K vs H Q dX
theorem WK{w r t:Addr}{ws:List mD}{Q:Bool->Hp->Prop}(hw:yH H w ws)(G:E_ H r ws (RB ws j (i+1)))(l:i<j)(F:j<ws.length)(k:∀c,(c=true↔Ah (rB ws) i j)->Q c H):
 tOr (tB (CJ (qL K) (eG 3) (eG 4))) (tOr (S6 (CJ rEq (CJ (Ua K) (CJ (qL K) (eG 0) (eG 4)) (tC (.int 0))) (CJ (Ua K) (CJ (qL K) (eG 0) (eG 2)) (tC (.int 0))))) (tB (Io (wV K) [] E0 (jo (CJ (qL K) (eG 0) (eG 4)) (jo (CJ (qL K) (eG 0) (eG 2)) uM))))) [some (.ref w),some (.ref t),some (.int j),some (.ref r),some (.int i),x5] H Q:=by
 obtain⟨C,b,e,P,M,I⟩:=G.get (m:=i) (by lia);obtain⟨x,ex⟩:∃x,ws[i]?=some x:=⟨_,aaj (by lia)⟩;obtain⟨y,n⟩:∃y,ws[j]?=some y:=⟨_,aaj F⟩;obtain⟨g,p,f,lv,A,s⟩:=zW hw ex;obtain⟨B,q,d,E,eq,o⟩:=zW hw n;rw[f] at d;cases d
 have J:rB ws i j↔(x.1=y.1\/RM x y=true):=⟨λ⟨_,O,N,v,u,L⟩=>by
  rw[ex] at v;rw[n] at u;cases v;cases u;exact L,λh=>⟨l,x,y,ex,n,h⟩⟩
 have all:=acJ (ws:=ws) l;rw[←I,J] at all;refine⟨_,Z,_,Z,r,C,i,.bl b,Z,Z,bG.of e,bL M,b,Z,?_⟩;cases b with
 | true=>exact fH (k true (by rw[←all];simp))
 | false=>
   refine cX ?_;refine⟨_,Z,_,Z,w,g,i,_,Z,Z,bG.of f,bL A,_,_,_,_,Z,Z,cD.of s,Z,_,Z,_,Z,w,g,j,_,Z,Z,bG.of f,bL eq,_,_,_,_,Z,Z,cD.of o,Z,Z,_,Z,?_⟩
   by_cases a:V.int x.1=V.int y.1
   .rw[aaO a]
    exact fH (k true (by rw[←all];injection a with a;simp[a]))
   .rw[aaQ a]
    refine cX ?_;have D:¬x.1=y.1:=λz=>a (by rw[z]);exact⟨_,Z,_,Z,w,g,i,_,Z,Z,bG.of f,bL A,_,Z,_,Z,w,g,j,_,Z,Z,bG.of f,bL eq,p,q,x,y,Z,s,o,_,Z,k _ (by rw[←all];simp[D])⟩
theorem acC{H1:Hp}{w r t:Addr}{ws:List mD}{D:Ends}(u:H1 r=none)(n:Same H1 H)(s:Dg H1 t ws j)(o:E_ H r ws λx=>RB ws j (i+1) x\/x=i\/(x<m/\Ah (rB ws) x i))(l:i<j)(G:j<ws.length)(lm:m<i)(k:∀H',Same H1 H'->E_ H' r ws (λx=>RB ws j (i+1) x\/x=i\/(x<m+1/\Ah (rB ws) x i))->D.nx [some (.ref w),some (.ref t),some (.int j),some (.ref r),some (.int i),some (.int m)] H'):
 Xz (adI (CJ (qL K) (eG 3) (eG 5)) (CJ (qL K) (CJ (qL K) (eG 1) (eG 4)) (eG 5))) (aci (eG 3) (eG 5) Oa) D [some (.ref w),some (.ref t),some (.int j),some (.ref r),some (.int i),some (.int m)] H:=by
 obtain⟨g,b,e,F,C,z⟩:=o.get (m:=m) (by lia);obtain⟨q,a,v,p,A,ev,B,f,d⟩:=(s.same n).get l (m:=m) (by lia)
 have put:∀c:Bool,(c=true↔(b=true\/p=true))->aci (eG 3) (eG 5) Oa (.bl c) [some (.ref w),some (.ref t),some (.int j),some (.ref r),some (.int i),some (.int m)] H D.nx:=λc y=>by
  refine⟨_,Z,_,Z,r,g,m,m,Z,Z,e,by rw[zB (by lia) (by lia)];rfl,?_⟩;refine k _ (nZ n u) (o.put e (by lia) ?_ λx E=>?_)
  .rw[y,z,d]
   constructor
   .rintro((h|h|h)|h)
    .exact .inl h
    .exact .inr (.inl h)
    .exact .inr (.inr ⟨by lia,h.2⟩)
    .exact .inr (.inr ⟨by lia,h⟩)
   .rintro(h|h|h)
    .exact .inl (.inl h)
    .exact .inl (.inr (.inl h))
    .exact .inr h.2
  .have:(x<m)↔(x<m+1):=by lia
   simp only[this]
 refine⟨_,Z,_,Z,r,g,m,.bl b,Z,Z,bG.of e,bL C,b,Z,?_⟩;cases b with
 | true=>exact fH (put true (by simp))
 | false=>exact cX ⟨_,Z,_,Z,t,q,i,_,Z,Z,bG.of A,bL ev,_,Z,v,a,m,_,Z,Z,bG.of B,bL f,put p (by simp)⟩
theorem abL(F:fZ K "_law_ahead" "_law_ahead" A_ f fd)(HN:FnAt P w K mg base 1 "_law_meet" ["one","other"] (wV K))(I:nR mg):bR P w K mg base iB 2 f fd ["web"] (Tr K):=by
 refine F.ok k_ (λvs H Q E h=>?_) (λa7 A a3 s H vs Q E hr h=>?_)
 .obtain⟨w,d,rfl,_⟩:=h
  rfl
 .obtain⟨w,d,rfl,hw,hl,k⟩:=h
  refine⟨_,(aB (bH (i:=1) k_.nd rfl (Or.inl rfl) (cJ au))
   (aB (iQ PassesOwn.never rfl (cP (by rfl) I.dI (aj (aV (aW (K:=K) rfl) (by rfl) I.dJ cG (aj (pv 0) au)) au)) (bK (i:=2) k_.nd rfl (Or.inl rfl))
   (aB (bH (i:=3) k_.nd rfl (Or.inl rfl) (bY K7 (cJ (aj mR au)) (aV (aW (K:=K) rfl) (by rfl) I.dJ cG (aj (pv 0) au))))
   (aB (iQ PassesOwn.never rfl (Yq (by rfl) I.Ml (by rfl) I.dI (aj (pv 2) au)) (bK (i:=4) k_.nd rfl (Or.inl rfl))
   (aJ (cj (PW.pt (pN (dH (aO (aL (K:=K) rfl) (pv 3) (pv 4) (λ_ _=>rfl))) (pN (bD eV (aO (aX (K:=K) rfl) (aO (aL (K:=K) rfl) (pv 0) (pv 4) (λ_ _=>rfl)) aG (λ_ _=>rfl)) (aO (aX (K:=K) rfl) (aO (aL (K:=K) rfl) (pv 0) (pv 2) (λ_ _=>rfl)) aG (λ_ _=>rfl)) (bA _)) (nJ (dH (bN HN (hr.mono (by decide)) (by rfl) (aj (aO (aL (K:=K) rfl) (pv 0) (pv 4) (λ_ _=>rfl)) (aj (aO (aL (K:=K) rfl) (pv 0) (pv 2) (λ_ _=>rfl)) au)))))))) (aB (pq mR (qM (pv 3) (pv 4) set_list))
   (aJ (iQ PassesOwn.never rfl (cP (by rfl) I.dI (aj (pv 4) au)) (bK (i:=5) k_.nd rfl (Or.inl rfl))
   (aJ (pq (Uu (aO (aL (K:=K) rfl) (pv 3) (pv 5) (λ_ _=>rfl)) (jA (aO (aL (K:=K) rfl) (aO (aL (K:=K) rfl) (pv 1) (pv 4) (λ_ _=>rfl)) (pv 5) (λ_ _=>rfl)))) (qM (pv 3) (pv 5) set_list)))))) bJ)))
   (aJ (cN (dO (K:=K) rfl (pv 1) (aj (pv 3) au)))))))
   (aJ (bw (pv 1))))),?_⟩
  show Ik _ _ _ [some (.ref w),none,none,none,none,none] H;refine⟨by show 0<=sizeLine;exact Nat.zero_le _,λt ht=>?_⟩;obtain⟨B,ew,dw⟩:=id hw;have lw:B.length=d.length:=by simpa using dw.length
  have s0:Same H (upd H t (.lst [])):=aH ht;refine⟨_,Z,w,B,Z,.inl (bG.of (s0 _ _ ew)),(B.length:Int),Z,by lia,by lia,?_⟩;rw[lw,acd];refine gD (λj g H1=>∃x2 Y y l:Option V,g=[some (.ref w),some (.ref t),x2,Y,y,l]/\Same H H1/\Dg H1 t d j) ⟨_,_,_,_,Z,s0,⟨⟨[],ak,Z,(λ_ h=>nomatch h),λj r h=>by simp at h⟩⟩⟩ ?_ ?_
  .rintro j g H1 hj ⟨x2,Y,y,l,rfl,L,J⟩
   have e0:(0:Int)+(j:Int)=(j:Int):=Int.zero_add _;rw[e0];refine⟨by show 1<=sizeLine;decide,λO a4=>?_⟩;have s1:Same H1 (upd H1 O (.lst [.bl false])):=aH a4
   have sz:[V.bl false].length*B.length<=sizeLine:=by
    show 1*B.length<=sizeLine;have a5:50<=sizeLine:=by decide
    lia
   refine⟨_,Z,w,B,Z,.inl (bG.of (s1 _ _ (L _ _ ew))),O,(B.length:Int),[.bl false],Z,Z,ak,by lia,by lia,by rw[acd];exact sz,λr S=>?_⟩;rw[acd,lw]
   have W:H1 r=none:=Classical.byContradiction λz=>by
    obtain⟨o,eo⟩:=Option.ne_none_iff_exists'.mp z;rw[s1 _ _ eo] at S;cases S
   have s2:Same H1 (upd (upd H1 O (.lst [.bl false])) r (.lst (List.replicate d.length [V.bl false]).flatten)):=nZ s1 W
   have M:E_ (upd (upd H1 O (.lst [.bl false])) r (.lst (List.replicate d.length [V.bl false]).flatten)) r d (RB d j j):=by
    refine⟨⟨List.replicate d.length false,by rw[ak,List.flatten_replicate_singleton,List.map_replicate],by simp,λx=>⟨λh=>?_,λh=>ac' h acI⟩⟩⟩;rw[List.getElem?_replicate] at h;split at h<;>cases h
   generalize upd (upd H1 O (.lst [.bl false])) r (.lst (List.replicate d.length [V.bl false]).flatten)=H2 at s2 M ⊢;refine⟨_,Z,(j:Int),Z,⟨by lia,by lia⟩,?_⟩;rw[acd];refine Lz (hi:=(j:Int)-1) (n:=j) (λi g G=>∃y l:Option V,g=[some (.ref w),some (.ref t),some (.int j),some (.ref r),y,l]/\Same H1 G/\E_ G r d (RB d j (j-i))) ⟨_,_,Z,s2,M⟩ ?_ ?_
   .rintro i g G hi ⟨y,l,rfl,D,v⟩
    have eh:(j:Int)-1-(i:Int)=((j-1-i:Nat):Int):=by lia
    rw[eh];obtain⟨h,eq⟩:∃h,h=j-1-i:=⟨_,Z⟩;rw[←eq];have e1:j-i=h+1:=by lia
    have e2:j-(i+1)=h:=by lia
    rw[e1] at v;refine WK (hw.same (L.trans D)) v (by lia) hj λc hc=>?_;cases c with
    | false=>
      refine cX ⟨_,_,Z,D,?_⟩;rw[e2];exact v.iff (ae' (λz=>by cases hc.mpr z))
    | true=>
      have a:=hc.mp rfl;obtain⟨us,b,e,lu,eb,hb⟩:=v.get (m:=h) (by lia);refine fH ⟨_,Z,_,Z,r,us,h,h,Z,Z,e,by rw[zB (by lia) (by lia)];rfl,?_⟩;refine⟨_,Z,(h:Int),Z,by lia,by lia,?_⟩;rw[acd];refine gD (λm g X=>∃l:Option V,g=[some (.ref w),some (.ref t),some (.int j),some (.ref r),some (.int h),l]/\Same H1 X/\E_ X r d λx=>RB d j (h+1) x\/x=h\/(x<m/\Ah (rB d) x h)) ⟨_,Z,nZ D W,v.put e (by lia) (by simp) λx xm=>by simp[xm]⟩ ?_ ?_
      .rintro m g X hm ⟨l,rfl,s4,C⟩
       have e0:(0:Int)+(m:Int)=(m:Int):=Int.zero_add _;rw[e0];exact acC W s4 J C (by lia) hj hm λH' s5 a2=>⟨_,Z,s5,a2⟩
      .rintro g X ⟨l,rfl,s4,C⟩
       refine⟨_,_,Z,s4,?_⟩;rw[e2];exact C.iff (acH a)
   .rintro g G ⟨y,l,rfl,D,v⟩
    rw[Nat.sub_self] at v;have a1:=v.iff λx=>ZL;obtain⟨N,et,lr,nr,q⟩:=(J.same D).ex
    have t1:H1 t≠none:=λz=>by
     obtain⟨a6,U,_⟩:=J.ex;rw[z] at U;cases U
    have a0:j<sizeLine:=by
     have a5:50<=sizeLine:=by decide
     lia
    have R:r≠t:=λz=>t1 (by rw[←z];exact W);refine⟨_,Z,.inl ⟨Z,_,bG.of et⟩,_,Z,t,_,_,Z,Z,et,by rw[aae,lr];exact a0,?_⟩;refine⟨_,_,_,_,Z,λb u eb=>?_,⟨⟨N++[r],by rw[ak,ab1];rfl,by simp[lr],λx p=>?_,λi x p=>?_⟩⟩⟩
    .have:b≠t:=aA eb ht
     rw[aF this];exact D _ _ (L _ _ eb)
    .rcases acG.mp p with h|h
     .exact nr _ h
     .have:x=r:=by simpa using h
      rw[this];exact R
    .have kp:∀{x:Addr}{T:Nat->Prop},x≠t->E_ G x d T->E_ (upd G t (.lst (N.map V.ref++[V.ref r]))) x d T:=λn h=>let ⟨bs,e,z⟩:=h.ex;⟨⟨bs,by rw[aF n];exact e,z⟩⟩
     rcases Nat.lt_or_ge i N.length with h|h
     .rw[abU h] at p
      exact kp (nr _ (aaK p)) (q i x p)
     .rw[abj h] at p
      have i0:i-N.length=0:=by
       rcases Nat.eq_zero_or_pos (i-N.length) with z|z
       .exact z
       .rw[List.getElem?_eq_none (by show 1<=_;lia)] at p
        cases p
      rw[i0] at p;cases p;have:i=j:=by lia
      subst this;exact kp R a1
  .rintro g H1 ⟨x2,Y,y,l,rfl,L,J⟩
   exact⟨_,Z,k _ _ L J⟩
inductive NK(K:zzy)(vs:List V)(H:Hp)(Q:VK)(dX:XK):Prop|m:∀(t:Addr)(ws:List mD)(i j:Nat),vs=[.ref t,.int i,.int j]->Dg H t ws ws.length->i<j->j<ws.length->ws.length<=50->(∀b H',(b=true ↔ ∃x,i<x/\x<j/\Ah (rB ws) x j/\Ah (rB ws) i x)->Same H H'->Q (.bl b) H')->NK K vs H Q dX
theorem abK(F:fZ K "_law_covered" "_law_covered" uc f fd)(Bt:nR mg):bR P w K mg base iB 1 f fd ["ahead","i","j"] (NK K):=by
 refine F.ok IV (λB H Q E h=>?_) (λa3 A G s H B Q E hr h=>?_)
 .obtain⟨t,d,i,j,rfl,_⟩:=h
  rfl
 .obtain⟨t,d,i,j,rfl,X,l,lj,hl,k⟩:=h
  refine⟨_,(aJ (bw (cZ (Bq (K:=K) rfl) mR (dZ rfl (N:=["x","i","ahead","j"]) (own:=["x"]) (caps:=[1,0,2]) (bB.of (by kernel_rfl)) (DQ (by rfl) Bt.dI (aj (bY iR (pv 1) aG) (aj (pv 2) au))) (λ_ _ _ _=>(bK (i:=0) (show List.Nodup (["x","i","ahead","j"]:List Str) by decide +kernel) rfl (Or.inl rfl))) (λ_ _ _ _=>dF) (λ_ _ _ _=>(j9 (aO (aL (K:=K) rfl) (aO (aL (K:=K) rfl) (pv 2) (pv 3) (λ_ _=>rfl)) (pv 0) (λ_ _=>rfl)) (jA (aO (aL (K:=K) rfl) (aO (aL (K:=K) rfl) (pv 2) (pv 0) (λ_ _=>rfl)) (pv 1) (λ_ _=>rfl)))))) (by with_unfolding_all rfl)))),?_⟩;show Xx _ _ [some (.ref t),some (.int i),some (.int j)] H;refine⟨_,Z,_,_,Z,Z,_,Z,(i:Int)+1,(j:Int),Z,⟨by lia,by lia,by lia,by lia⟩,λD Y=>?_⟩;have en:((j:Int)-((i:Int)+1)).toNat=j-(i+1):=by lia
  rw[en];show jk _ _ _ _ _ _ (none::[some (.int i),some (.ref t),some (.int j)]) H;refine jD (lo:=(i:Int)+1) (n:=j-(i+1)) (λn u H1=>(∃v,u=v::[some (.int i),some (.ref t),some (.int j)])/\Same H H1 /\ ∃bs:List Bool,H1 D=some (.lst (bs.map V.bl))/\bs.length=n /\ ∀m,bs[m]?=some true↔(m<n/\Ah (rB d) (i+1+m) j/\Ah (rB d) i (i+1+m))) ⟨⟨none,Z⟩,aH Y,[],ak,Z,λm=>⟨λz=>by simp at z,λz=>by lia⟩⟩ ?_ ?_
  .rintro n u H1 hn ⟨⟨v,rfl⟩,g,bs,e,o,p⟩
   have ex:(i:Int)+1+(n:Int)=((i+1+n:Nat):Int):=by lia
   rw[ex];obtain⟨B,us,r,b,e1,e2,e3,e4,e5⟩:=(X.same g).get (i:=j) (m:=i+1+n) lj (by lia);obtain⟨y,C,r',T,S,R,O,M,L⟩:=(X.same g).get (i:=i+1+n) (m:=i) (by lia) (by lia)
   have go:∀c:Bool,(c=true↔(b=true/\T=true)) -> ∃a,H1 D=some (.lst a)/\a.length<sizeLine/\((∃v,(some (V.int ((i+1+n:Nat):Int))::[some (.int i),some (.ref t),some (.int j)]:St)=v::[some (.int i),some (.ref t),some (.int j)])/\Same H (upd H1 D (.lst (a++[.bl c]))) /\ ∃bs:List Bool,(upd H1 D (.lst (a++[.bl c]))) D=some (.lst (bs.map V.bl))/\bs.length=n+1 /\ ∀m,bs[m]?=some true↔(m<n+1/\Ah (rB d) (i+1+m) j/\Ah (rB d) i (i+1+m))):=λc J=>by
    have sz:n<sizeLine:=by
     have a0:50<=sizeLine:=by decide
     lia
    refine⟨_,e,by rw[aae,o];exact sz,⟨_,Z⟩,nZ g Y,bs++[c],by rw[ak,ab1];rfl,by simp[o],λm=>?_⟩;rcases Nat.lt_trichotomy m n with h|h|h
    .rw[abU (by lia),p]
     have:(m<n)↔(m<n+1):=by lia
     rw[this]
    .subst h
     rw[abj (by lia),o,Nat.sub_self];show some c=some true↔_;rw[Option.some.injEq,J,e5,L];exact⟨λz=>⟨by lia,z⟩,λz=>z.2⟩
    .rw[List.getElem?_eq_none (by rw[abf,o];show n+1<=m;lia)]
     exact⟨(λz=>by cases z),λz=>by lia⟩
   refine⟨_,Z,_,Z,t,B,j,_,Z,Z,bG.of e1,bL e2,_,Z,r,us,(i+1+n:Nat),.bl b,Z,Z,bG.of e3,bL e4,b,Z,?_⟩;cases b with
   | false=>exact cX (go false (by simp))
   | true=>exact fH ⟨_,Z,_,Z,t,y,(i+1+n:Nat),_,Z,Z,bG.of S,bL R,_,Z,r',C,i,.bl T,Z,Z,bG.of O,bL M,go T (by simp)⟩
  .rintro u H1 ⟨⟨v,rfl⟩,g,bs,e,o,p⟩
   refine⟨D,_,Z,.inl (bG.of e),Z,by simp[vQ],?_⟩;refine k _ H1 ?_ g;show inV _ _=true↔_;unfold inV;rw[List.any_map,List.any_eq_true];constructor
   .rintro⟨c,J,q⟩
    have:c=true:=by simpa [Wf] using q
    subst this;obtain⟨m,I⟩:=List.getElem?_of_mem J;obtain⟨l1,W,U⟩:=(p m).mp I;exact⟨i+1+m,by lia,by lia,W,U⟩
   .rintro⟨x,l1,l2,W,U⟩
    have q:i+1+(x-(i+1))=x:=by lia
    have I:=(p (x-(i+1))).mpr ⟨by lia,by rw[q];exact W,by rw[q];exact U⟩;exact⟨true,aaK I,by simp[Wf]⟩
def Yw(ws:List mD)(i j:Nat):Prop:=∃x y,ws[i]?=some x/\ws[j]?=some y/\x.1=y.1
def Vs(ws:List mD)(i j:Nat):Prop:=∃x y,ws[i]?=some x/\ws[j]?=some y/\RM x y=true
theorem ad8(ws:List mD):(λa b=>a<b/\(Yw ws a b\/Vs ws a b))=rB ws:=by
 funext a b;refine propext ⟨λ⟨l,h⟩=>⟨l,?_⟩,λ⟨l,x,y,d,c,h⟩=>⟨l,?_⟩⟩
 .rcases h with ⟨x,y,d,c,h⟩|⟨x,y,d,c,h⟩
  .exact⟨x,y,d,c,.inl h⟩
  .exact⟨x,y,d,c,.inr h⟩
 .rcases h with h|h
  .exact .inl ⟨x,y,d,c,h⟩
  .exact .inr ⟨x,y,d,c,h⟩
def tH(ws:List mD)(few:Bool)(i j:Nat):Prop:=told (Yw ws) (Vs ws) (few=true) i j
def yR(ws:List mD):List Int:=ws.map (·.1)
def ctW(ws:List mD)(i:Nat):Int:=(((yR ws).take i).count (gI (yR ws) i):Int)
def pQ(ws:List mD)(i j:Nat):Nt:=(gI (yR ws) i,ctW ws i,gI (yR ws) j,ctW ws j)
theorem Vn{w t:Addr}{ws:List mD}{r o:Option V}{Q:Bool->Hp->Prop}(hw:yH H w ws)(A:Dg H t ws ws.length)(C:ws.length<=50)(l:i<j)(g:j<ws.length)(k:∀c H',Same H H'->(c=true↔tH ws few i j)->Q c H'):
 aa9 (tB (Io (wV K) [] E0 (jo (CJ (qL K) (eG 0) (eG 6)) (jo (CJ (qL K) (eG 0) (eG 5)) uM)))) (aaZ (aa9 (tB (eG 1)) (tB (Io (NK K) [] E0 (jo (eG 2) (jo (eG 6) (jo (eG 5) uM))))))) [some (.ref w),some (.bl few),some (.ref t),r,o,some (.int j),some (.int i)] H Q:=by
 obtain⟨x,ex⟩:∃x,ws[i]?=some x:=⟨_,aaj (by lia)⟩;obtain⟨y,d⟩:∃y,ws[j]?=some y:=⟨_,aaj g⟩;obtain⟨f,p,e,lv,G,z⟩:=zW hw ex;obtain⟨u,q,a,B,eq,v⟩:=zW hw d;rw[e] at a;cases a
 have E:Vs ws i j↔RM x y=true:=⟨λ⟨J,I,n,m,F⟩=>by
  rw[ex] at n;rw[d] at m;cases n;cases m;exact F,λh=>⟨x,y,ex,d,h⟩⟩
 have all:tH ws few i j↔(RM x y=true /\ ¬(few=true /\ ∃x,i<x/\x<j/\Ah (rB ws) x j/\Ah (rB ws) i x)):=by
  unfold tH told;rw[ad8,E];exact⟨λh=>h.2,λh=>⟨l,h⟩⟩
 refine⟨_,Z,_,Z,w,f,i,_,Z,Z,bG.of e,bL G,_,Z,_,Z,w,f,j,_,Z,Z,bG.of e,bL eq,p,q,x,y,Z,z,v,_,Z,?_⟩;cases hm:RM x y with
 | false=>exact cX (k _ _ (Same.refl _) (by rw[all,hm];simp))
 | true=>
   refine fH ⟨_,Z,few,Z,?_⟩;cases few with
   | false=>exact cX (k _ _ (Same.refl _) (by rw[all,hm];simp))
   | true=>
     refine fH ⟨_,Z,_,Z,_,Z,t,ws,i,j,Z,A,l,g,C,λb H' D s=>⟨_,Z,k _ _ s ?_⟩⟩;rw[all,hm,←D];cases b<;>simp
def yI(ws:List mD)(few:Bool)(j i:Nat)(seq:List Nt):Prop:=seq.length<=50*j+i /\ ∀x,x∈seq ↔ ∃b a,(a<j\/(a=j/\b<i))/\tH ws few b a/\x=pQ ws b a
theorem Tv{ws:List mD}{seq:List Nt}(h:yI ws few j i seq)(n:¬tH ws few i j):yI ws few j (i+1) seq:=by
 refine⟨by have:=h.1;lia,λx=>(h.2 x).trans ⟨λ⟨d,c,a,b⟩=>⟨d,c,by lia,b⟩,λ⟨d,c,a,b⟩=>?_⟩⟩
 by_cases z:d=i/\c=j
 .rw[z.1,z.2] at b
  exact ac' b.1 n
 .exact⟨d,c,by lia,b⟩
theorem X6{ws:List mD}{seq:List Nt}(h:yI ws few j i seq)(n:tH ws few i j):yI ws few j (i+1) (seq++[pQ ws i j]):=by
 refine⟨by have:=h.1;simp;lia,λx=>?_⟩;rw[acG,h.2 x,acQ];constructor
 .rintro(⟨d,c,a,b⟩|rfl)
  .exact⟨d,c,by lia,b⟩
  .exact⟨i,j,by lia,n,Z⟩
 .rintro⟨d,c,a,b⟩
  by_cases z:d=i/\c=j
  .rw[z.1,z.2] at b
   exact .inr b.2
  .exact .inl ⟨d,c,by lia,b⟩
theorem XS{ws:List mD}{seq:List Nt}(h:yI ws few j j seq)(e:j<=50):yI ws few (j+1) 0 seq:=by
 refine⟨by have:=h.1;lia,λx=>(h.2 x).trans ⟨λ⟨d,c,a,b⟩=>⟨d,c,by lia,b⟩,λ⟨d,c,a,b⟩=>⟨d,c,?_,b⟩⟩⟩;have:=b.1.1;lia
theorem YW{H0:Hp}{b:Addr}{ws:List mD}{x0 u t:Option V}{D:Ends}{seq:List Nt}(d:H b=some (.lst ((yR ws).map V.int)))(T:ws.length<=50)(l:i<j)(E:j<ws.length)(O:H0 f=none)(I:Same H0 H)(N:kI H f seq)(ls:seq.length<=4000)(k:∀H',Same H0 H'->kI H' f (seq++[pQ ws i j])->D.nx [x0,u,t,some (.ref b),some (.ref f),some (.int j),some (.int i)] H'):
 Ti (tBM K "list" vp (eG 4) (jo (aaX (jo (CJ (qL K) (eG 3) (eG 6)) (jo (tBM K "list" (K1 K) (tSl (T_ K) (eG 3) Fq (S_ (eG 6))) (jo (CJ (qL K) (eG 3) (eG 6)) uM)) (jo (CJ (qL K) (eG 3) (eG 5)) (jo (tBM K "list" (K1 K) (tSl (T_ K) (eG 3) Fq (S_ (eG 5))) (jo (CJ (qL K) (eG 3) (eG 5)) uM)) uM))))) uM)) D [x0,u,t,some (.ref b),some (.ref f),some (.int j),some (.int i)] H:=by
 obtain⟨v,x,G⟩:=N;have R:(yR ws).length=ws.length:=by unfold yR;simp
 have q:∀m:Nat,m<ws.length->wG ((yR ws).map V.int) (m:Int)=some (.int (gI (yR ws) m)):=λm S=>gR (by lia) (by lia);refine⟨_,Z,.inl ⟨Z,_,bG.of x⟩,_,Z,_,Z,b,_,i,_,Z,Z,bG.of d,q i (by lia),_,Z,_,Z,i,Z,b,_,Z,bG.of d,λp M=>?_⟩;have g:=aH (o:=HO.lst (lY ((yR ws).map V.int) none (some (i:Int)))) M;have z:(upd H p (.lst (lY ((yR ws).map V.int) none (some (i:Int))))) p=some (.lst (((yR ws).take i).map V.int)):=by rw[ak,Ce,List.map_take]
 generalize upd H p (.lst (lY ((yR ws).map V.int) none (some (i:Int))))=H1 at g z ⊢;refine⟨.inl ⟨Z,_,bG.of z⟩,_,Z,_,Z,b,_,i,_,Z,Z,bG.of (g _ _ d),q i (by lia),p,_,_,Z,Z,bG.of z,_,Z,_,Z,b,_,j,_,Z,Z,bG.of (g _ _ d),q j E,_,Z,_,Z,j,Z,b,_,Z,bG.of (g _ _ d),λn L=>?_⟩;have C:=aH (o:=HO.lst (lY ((yR ws).map V.int) none (some (j:Int)))) L;have y:(upd H1 n (.lst (lY ((yR ws).map V.int) none (some (j:Int))))) n=some (.lst (((yR ws).take j).map V.int)):=by rw[ak,Ce,List.map_take]
 generalize upd H1 n (.lst (lY ((yR ws).map V.int) none (some (j:Int))))=H2 at C y ⊢;have e:=g.trans C;refine⟨.inl ⟨Z,_,bG.of y⟩,_,Z,_,Z,b,_,j,_,Z,Z,bG.of (e _ _ d),q j E,n,_,_,Z,Z,bG.of y,(by show 4<=sizeLine;decide),λc J=>?_⟩;have B:=aH (o:=HO.tup (nV (pQ ws i j))) J;have F:(upd H2 c (.tup (nV (pQ ws i j)))) c=some (.tup (nV (pQ ws i j))):=ak;show vp (.ref f) [.ref c] (upd H2 c (.tup (nV (pQ ws i j)))) (λ_ H1=>D.nx [x0,u,t,some (.ref b),some (.ref f),some (.int j),some (.int i)] H1);generalize upd H2 c (.tup (nV (pQ ws i j)))=P at B F ⊢;have s:=e.trans B
 have w:v.length<sizeLine:=by
  have:=G.length;rw[aae] at this;rw[sizeLine_eq];lia
 refine⟨f,v,_,Z,Z,s _ _ x,w,k _ (nZ (I.trans s) O) ⟨_,ak,?_⟩⟩;have A:=(Kp.set (H:=P) (r:=f) (o:=HO.lst (v++[V.ref c]))).tups (s _ _ x);rw[ab1];exact iW (aR.keep (λa Q h=>A _ _ (s.tups _ _ h)) _ (cH _ qW seq) G) (Dat.keep A _ (qW _) (G7 F))
inductive Tp(K:zzy)(vs:List V)(H:Hp)(Q:VK)(dX:XK):Prop|m:∀(w:Addr)(ws:List mD)(few:Bool),vs=[.ref w,.bl few]->yH H w ws->ws.length<=50->(∀t seq H',H t=none->Same H H'->kI H' t seq->seq.length<=2500->(∀x,x∈seq ↔ ∃i j,j<ws.length/\tH ws few i j/\x=pQ ws i j)->Q (.ref t) H')->Tp K vs H Q dX
theorem abG(F:fZ K "_law_notes" "_law_notes" Az f fd)(HN:FnAt P w K mg base 1 "_law_meet" ["one","other"] (wV K))(W0:FnAt P w K mg base 2 "_law_ahead" ["web"] (Tr K))(Mz:FnAt P w K mg base 1 "_law_covered" ["ahead","i","j"] (NK K))(Bt:nR mg):bR P w K mg base iB 3 f fd ["web","few"] (Tp K):=by
 refine F.ok kZ (λvs H Q E h=>?_) (λa0 A Y s H vs Q E hr h=>?_)
 .obtain⟨w,n,g,rfl,_⟩:=h
  rfl
 .obtain⟨w,n,g,rfl,hw,hl,k⟩:=h
  refine⟨_,(aB (bH (i:=2) kZ.nd rfl (Or.inl rfl) (bN W0 (hr.mono (by decide)) (by rfl) (aj (pv 0) au)))
   (aB (mL (i:=3) rfl kZ.nd rfl (Or.inl rfl) (N:=["touched"]) (own:=["touched"]) (caps:=[]) (bB.of (by kernel_rfl)) (dg (K:=K) rfl (pv 0)) (λ_ _ _ _=>(bK (i:=0) (show List.Nodup (["touched"]:List Str) by decide +kernel) rfl (Or.inl rfl))) (λ_ _ _ _=>dF) (λ_ _ _ _=>(aO (aX (K:=K) rfl) (pv 0) aG (λ_ _=>rfl))))
   (aB (bH (i:=4) kZ.nd rfl (Or.inl rfl) (cJ au))
   (aB (iQ PassesOwn.never rfl (cP (by rfl) Bt.dI (aj (aV (aW (K:=K) rfl) (by rfl) Bt.dJ cG (aj (pv 0) au)) au)) (bK (i:=5) kZ.nd rfl (Or.inl rfl))
   (aJ (iQ PassesOwn.never rfl (cP (by rfl) Bt.dI (aj (pv 5) au)) (bK (i:=6) kZ.nd rfl (Or.inl rfl))
   (aJ (cj (PW.pt (ud (dH (bN HN (hr.mono (by decide)) (by rfl) (aj (aO (aL (K:=K) rfl) (pv 0) (pv 6) (λ_ _=>rfl)) (aj (aO (aL (K:=K) rfl) (pv 0) (pv 5) (λ_ _=>rfl)) au)))) (rY (fP (PW.pt (ud (dH (pv 1)) (rY (dH (bN Mz (hr.mono (by decide)) (by rfl) (aj (pv 2) (aj (pv 6) (aj (pv 5) au)))))))))))) (aJ (cN (dO (K:=K) rfl (pv 4) (aj (dY (aj (aO (aL (K:=K) rfl) (pv 3) (pv 6) (λ_ _=>rfl)) (aj (xO (K:=K) rfl PySem.F.plainAttrs_list PySem.F.slot_list_count PySem.F.type_list_count (xQ (K:=K) rfl) (jR (nW (K:=K) rfl) (pv 3) mQ (mO (pv 6))) (aj (aO (aL (K:=K) rfl) (pv 3) (pv 6) (λ_ _=>rfl)) au)) (aj (aO (aL (K:=K) rfl) (pv 3) (pv 5) (λ_ _=>rfl)) (aj (xO (K:=K) rfl PySem.F.plainAttrs_list PySem.F.slot_list_count PySem.F.type_list_count (xQ (K:=K) rfl) (jR (nW (K:=K) rfl) (pv 3) mQ (mO (pv 5))) (aj (aO (aL (K:=K) rfl) (pv 3) (pv 5) (λ_ _=>rfl)) au)) au))))) au)))) bJ)))))
   (aJ (bw (pv 4))))))),?_⟩
  show Ik _ _ _ [some (.ref w),some (.bl g),none,none,none,none,none] H;refine⟨_,Z,w,n,Z,hw,hl,λt H1 s1 tb=>?_⟩;have r:=hw.same s1;obtain⟨u,R,dw⟩:=id r;have lw:u.length=n.length:=by simpa using dw.length
  have it:∀(m:Nat)(v:V),u[m]?=some v -> ∃b x,n[m]?=some x/\v=.ref b/\H1 b=some (.tup [.int x.1,.str x.2.1,.int x.2.2]):=λm v C=>by
   have lm:m<n.length:=by rw[←lw];exact(aak.mp C).1
   obtain⟨vs,b,e1,_,e2,e3⟩:=zW r (aaj lm);rw[R] at e1;cases e1;rw[C] at e2;cases e2;exact⟨b,_,aaj lm,Z,e3⟩
  refine⟨_,Z,w,Z,⟨_,bG.of R⟩,λD hD=>?_⟩;show jk _ _ _ _ _ _ [none] H1;have zz:50<sizeLine:=by decide
  refine jE (xs:=u) (λm l H2=>(∃v,l=[v])/\Same H1 H2/\H2 D=some (.lst (((yR n).take m).map V.int))) ⟨⟨_,Z⟩,aH hD,ak⟩ (λm l H2 _ ⟨_,I,_⟩=>bG.of (I _ _ R)) ?_ ?_
  .rintro m v l H2 C ⟨⟨v0,rfl⟩,I,e⟩
   obtain⟨b,x,ex,rfl,eb⟩:=it m v C;have em:(yR n)[m]?=some x.1:=by unfold yR;rw[aam,ex];rfl
   dsimp only[bU,yK];rw[ac_ rfl];refine⟨_,Z,_,_,_,_,Z,Z,cD.of (I _ _ eb),Z,_,e,?_,⟨_,Z⟩,nZ I hD,?_⟩
   .rw[aae,acX]
    have:m<n.length:=by rw[←lw];exact(aak.mp C).1
    lia
   .rw[ak,acU,em,ab1]
    rfl
  rintro l H2 ⟨_,J,eh⟩
  have eh:H2 D=some (.lst ((yR n).map V.int)):=by
   rw[eh,List.take_of_length_le (by unfold yR;rw[aae];lia)]
  refine⟨by show 0<=sizeLine;exact Nat.zero_le _,λf O=>?_⟩;have B:=s1.trans J
  have f0:H f=none:=Classical.byContradiction λz=>by
   obtain⟨o,eo⟩:=Option.ne_none_iff_exists'.mp z;rw[B _ _ eo] at O;cases O
  have s3:Same H2 (upd H2 f (.lst [])):=aH O;refine⟨_,Z,w,u,Z,.inl (bG.of (s3 _ _ (J _ _ R))),(u.length:Int),Z,by lia,by lia,?_⟩;rw[lw,acd];refine gD (λj l G=>∃(U p:Option V) (seq:List Nt),l=[some (.ref w),some (.bl g),some (.ref t),some (.ref D),some (.ref f),U,p]/\Same H2 G/\kI G f seq/\yI n g j 0 seq) ⟨_,_,[],Z,s3,⟨[],ak,by simp[aR]⟩,by simp,λx=>⟨λz=>by simp at z,λ⟨M,L,z,_⟩=>by lia⟩⟩ ?_ ?_
  .rintro j l G hj ⟨U,p,seq,rfl,X,N4,d⟩
   have e0:(0:Int)+(j:Int)=(j:Int):=Int.zero_add _;rw[e0];refine⟨_,Z,(j:Int),Z,by lia,by lia,?_⟩;rw[acd];refine gD (λi l T=>∃(p:Option V) (seq:List Nt),l=[some (.ref w),some (.bl g),some (.ref t),some (.ref D),some (.ref f),some (.int j),p]/\Same H2 T/\kI T f seq/\yI n g j i seq) ⟨_,seq,Z,X,N4,d⟩ ?_ ?_
   .rintro i l T hi ⟨p,seq,rfl,y,S,d⟩
    have e0:(0:Int)+(i:Int)=(i:Int):=Int.zero_add _;rw[e0];refine Vn (r.same (J.trans y)) (tb.same (J.trans y)) hl hi hj λc H6 W hc=>?_;have q:=y.trans W;cases c with
    | false=>exact cX ⟨_,seq,Z,q,S.same W,Tv d λz=>by cases hc.mpr z⟩
    | true=>
      refine fH (YW (q _ _ eh) hl hi hj O q (S.same W) (by have:=d.1;lia) λH' s7 N7=>?_);exact⟨_,_,Z,s7,N7,X6 d (hc.mp rfl)⟩
   .rintro l T ⟨p,seq,rfl,y,S,d⟩
    exact⟨_,_,seq,Z,y,S,XS d (by lia)⟩
  .rintro l G ⟨U,p,seq,rfl,X,N4,d⟩
   refine⟨_,Z,k _ seq G f0 (B.trans X) N4 (by have:=d.1;lia) λx=>(d.2 x).trans ⟨λ⟨M,L,a,b⟩=>⟨M,L,by lia,b⟩,λ⟨M,L,a,b⟩=>⟨M,L,.inl a,b⟩⟩⟩
structure PgH(H:Hp)(p L:Addr)(rs:List Addr)(rws:List (List Rw))(m:Nat):Prop where
 ep:H p=some (.tup [.int m,.ref L])
 eL:H L=some (.lst (rs.map V.ref))
 len:rs.length=rws.length
 row:∀(k:Nat)(r:Addr)(x:List Rw),rs[k]?=some r->rws[k]?=some x->fL H r m x
theorem Pg.h(g:Pg τ H p L rs rws m):PgH H p L rs rws m:=⟨g.ep,g.eL,g.len,λk r x b a=>(g.row k r x b a).2⟩
def afj(H:Hp)(v:V)(ns:List Int)(m:Nat):Prop:=qO m ns/\((v=.non/\ns=List.replicate m 0) \/ ∃l,v=.ref l/\H l=some (.lst (ns.map V.int)))
theorem NumV.h{τ:Tg}{H:Hp}{v:V}{ns:List Int}{m:Nat}(h:NumV τ H v ns m):afj H v ns m:=⟨h.1,h.2.elim .inl λ⟨l,e,_,q⟩=> .inr ⟨l,e,q⟩⟩
theorem Gx{G:Addr}{d:V}{Q:Addr->Hp->Prop}(g:PgH H p L rs rws m)(w:rws.length<=100)(j:m<=100)(un:sU τ H)(A:i≠0)(t:afj H d ns m)(go:∀(τ':Tg)(W:wg)(H':Hp),mC CW CH i τ' H' W (jY m ns rws)->(∀x u,H x=some u->τ' x=τ x)->Same H H'->Q W.o H')(o a:Addr)(l:H o=none)(n:H a=none)(f:a≠o):
 mH CW CH G K (.ref o::([.ref p,d]++[])) (upd (upd H a (.own o)) o (.ins CW a [])) (λv H'=>v=.non/\Q o H') (λ_ _ _=>False):=by
 obtain⟨good,B⟩:=t;have k:(upd H a (.own o)) o=none:=by rw[aF f.symm];exact l
 have b:Same H (upd (upd H a (.own o)) o (.ins CW a [])):=(aH n).trans (aH k);refine⟨i,τ,o,a,p,L,rs,m,d,ns,rws,Z,ak,b _ _ g.ep,b _ _ g.eL,g.len,λz s x D C=>(g.row z s x D C).same b,w,j,un.same b,A,by have:=good.1;lia,?_,λ_ c W F E q r y=>⟨Z,?_⟩,λbad=>ac' good bad⟩
 .rcases B with h|⟨cl,e,h⟩
  .exact .inl h
  .exact .inr ⟨cl,e,b _ _ h⟩
 .rw[←E]
  exact go c W F q (λx u e=>r x u (b _ _ e) (aA e l)) (λx u e=>y _ _ (b _ _ e) (aA e l))
def tcV(t:Tc):List V:=[.str (tG t.r),.int (jd t.r),oV t.rd,oV t.wr]
def Ij(t:Tc):PyData:= .tuple [.str (tG t.r),.int (jd t.r),oD t.rd,oD t.wr]
def gj(t:Tc):mD:=((t.k:Int),tG t.r,(jd t.r:Int))
theorem ab7(x:Option Int):CK (oD x)=true:=by cases x<;>rfl
theorem VH(t:Tc):CK (Ij t)=true:=by simp only[Ij,CK,qT,ab7,Bool.and_self]
theorem acr{t:Tc}(h:H p=some (.tup (tcV t))):Dat H (.ref p) (Ij t):=by
 unfold Ij tcV at *;simp only[Dat];exact⟨p,_,Z,h,by simp only[aR,Dat,and_true,true_and];exact⟨G6 _,G6 _⟩⟩
theorem Bf:∀{l:List Tc}{S b:eO},Run S l b->b.ts=S.ts++l.map λt=>(t.k:Int)
 | [],S,b,h=>by have h:b=S:=h;rw[h];simp
 | t::l,S,b,⟨a,h⟩=>by
   rw[Bf h];obtain⟨s,_,_,e⟩:=a.turn;rw[e];simp
theorem qI:∀{l:List Tc}{S b:eO},Run S l b->b.hs.length=S.hs.length/\b.m=S.m
 | [],S,b,h=>by have h:b=S:=h;rw[h];exact⟨Z,Z⟩
 | t::l,S,b,⟨a,h⟩=>by
   rw[(qI h).1,(qI h).2];obtain⟨s,_,_,e⟩:=a.turn;rw[e];simp
theorem vm:∀{l:List Tc}{S b:eO},Run S l b->kJ S->kJ b
 | [],S,b,h,g=>by have h:b=S:=h;rw[h];exact g
 | t::l,S,b,⟨a,h⟩,g=>vm h (g.turn _)
theorem aac:∀{l:List Tc}{S c:eO},Run S l c -> ∀t∈l,t.k<S.hs.length
 | [],S,c,h,t,b=>by cases b
 | x::l,S,c,⟨a,h⟩,t,b=>by
   obtain⟨s,es,_⟩:=id a;rcases List.mem_cons.mp b with rfl|b
   .exact(aak.mp es).1
   .have:=aac h t b
    obtain⟨s,_,_,e⟩:=a.turn;rw[e] at this;simpa using this
theorem Zn(hs:List bO)(n:Nat):(List.range n).filterMap (λi=>if kE hs i then some (V.int (i:Nat)) else none)=((List.range n).filter (kE hs)).map λk:Nat=>V.int k:=LC (kE hs) (λk:Nat=>V.int k) n
structure uD(i:Nat)(τ:Tg)(H:Hp)(τ':Tg)(H':Hp):Prop where
 keep:∀x o,H x=some o->τ x≠[]->(τ x).head?≠some i->H' x=some o
 tg:∀x o,H x=some o->τ' x=τ x
 tup:∀x xs,H x=some (.tup xs)->H' x=some (.tup xs)
 dom:∀x,H' x=none->H x=none
theorem uD.trans{H1 H2:Hp}(a:uD i τ H τ1 H1)(b:uD i τ1 H1 τ2 H2):uD i τ H τ2 H2:=
 ⟨λx o e n m=>b.keep _ _ (a.keep _ _ e n m) (by rw[a.tg _ _ e];exact n) (by rw[a.tg _ _ e];exact m),λx o e=>by
   cases q:H1 x with
   | none=>rw[a.dom x q] at e;cases e
   | some u=>rw[b.tg _ _ q,a.tg _ _ e],λx c e=>b.tup _ _ (a.tup _ _ e),λx e=>a.dom _ (b.dom _ e)⟩
theorem uD.same(s:Same H H'):uD i τ H τ H':=⟨λ_ _ e _ _=>s _ _ e,λ_ _ _=>rfl,λ_ _ e=>s _ _ e,λx e=>s.free e⟩
theorem uD.claim{t:List Nat}(s:Same H H')(a:H p=none):uD i τ H (aQ τ p t) H':=⟨λ_ _ e _ _=>s _ _ e,λ_ _ e=>aU (aA e a),λ_ _ e=>s _ _ e,λx e=>s.free e⟩
theorem agz{W:wg}{Q:VK}(w:mC ao aq i τ H W S)(r:S.hs.length<=8)(o:H D=none)(k:∀H',Same H H'->H' D=some (.lst ((uJ S.hs).map λk:Nat=>V.int k))->Q (.ref D) H'):
 jk (Xc 0 S.hs.length) (bU 0) (S6 (CJ rEq (Im ao "how" (λvs H Q _=>Dy ao aq bI K vs H Q λ_ _ _=>False) [] E0 (eG 1) (jo (eG 0) uM)) (tC (.str "waits")))) (eG 0) Q D (none::[some (.ref W.o)]) H:=by
 refine oE (λz=>if kE S.hs z then some (.int (z:Nat)) else none) o (by lia) (λz e G F n b g h=>?_) (λe b l=>?_)
 .have f:=w.same b
  have j:S.hs[z]?=some S.hs[z]:=by simp[n]
  have c:wC ((0:Int)+z) S.hs.length:=⟨by lia,by lia⟩;refine⟨_,Z,W.o,W.dx,_,Z,f.o,Z,_,Z,i,τ,W,S,_,Z,f,λm t3 s a=>?_,λz=>ac' c z⟩
  obtain rfl:t3=S.hs[z]:=by
   have:m=z:=by lia
   subst this;rw[j] at a;exact(abe a).symm
  refine⟨Z,_,Z,?_⟩;have p:kE S.hs z=decide (S.hs[z].st = "waits"):=by unfold kE;rw[j]
  rw[p] at g h;refine cO (λq=>?_) (λq=>?_)
  .have d:S.hs[z].st=Str.ofString "waits" :=V.str.inj (aaT q)
   refine⟨_,Z,h _ e (Same.refl _) ?_⟩;rw[aaO d,Int.zero_add];rfl
  .refine g e (Same.refl _) ?_
   have d:¬S.hs[z].st=Str.ofString "waits" :=λz=>q (aaO (by rw[z]));rw[aaQ d];rfl
 .rw[Zn] at l
  exact k _ b l
structure Ru(CW CH:Addr)(i j:Nat)(τ0:Tg)(H0:Hp)(τ:Tg)(H:Hp)(r:Addr)(W:wg)(S S1:eO)(l:List Tc)(a tl:Addr)(tls:List Addr):Prop where
 w:mC CW CH i τ H W S1
 T:RT τ H r
 R:Run S l S1
 ea:∃refs,H a=some (.lst refs)/\aR H refs ((l.map gj).map tD)
 ta:τ a=[j]
 et:H tl=some (.lst (tls.map V.ref))
 tt:τ tl=[j]
 nt:tls.length=S.hs.length
 ne:a≠tl
 ps:∀k p,tls[k]?=some p->τ p=[j]/\p≠tl/\p≠a /\ ∃us,H p=some (.lst us)/\aR H us ((l.filter λt=>t.k=k).map Ij)
 dj:∀(k k':Nat) p,tls[k]?=some p->tls[k']?=some p->k=k'
 fr:uD i τ0 H0 τ H
 j0:j≠0
 ji:j≠i
 Z2:∀x∈l,touch x.r=true
theorem vL(l:List Tc):qT (l.map Ij)=true:=cH _ VH l
theorem Ru.mv{H0:Hp}{r:Addr}{W:wg}{S1:eO}{c:Addr}(u:Ru CW CH i j τ0 H0 τ H r W S S1 l a c tls)(m:mC CW CH i τ' H' W S1)(w:RT τ' H' r)(f:uD i τ H τ' H'):Ru CW CH i j τ0 H0 τ' H' r W S S1 l a c tls:=by
 have b:∀x o,H x=some o->τ x=[j]->H' x=some o:=λx o e t=>f.keep _ _ e (by rw[t];simp) (by rw[t];intro z;exact u.ji (abe z));obtain⟨refs,g,v⟩:=u.ea
 exact⟨m,w,u.R,⟨refs,b _ _ g u.ta,aR.keep f.tup _ (cH tD Lw _) v⟩,(f.tg _ _ g).trans u.ta,b _ _ u.et u.tt,(f.tg _ _ u.et).trans u.tt,u.nt,u.ne,λk p h=>by
  obtain⟨t,s,q,n,e,d⟩:=u.ps k p h;exact⟨(f.tg _ _ e).trans t,s,q,n,b _ _ e t,aR.keep f.tup _ (vL _) d⟩,u.dj,u.fr.trans f,u.j0,u.ji,u.Z2⟩
theorem Gu{o u:HO}(d:j≠0)(c:j≠i)(b:τ a=[j])(e:H a=some o)(n:∀xs,o ≠ .tup xs):Mv i τ H τ (upd H a u):=by
 refine⟨λx v ex t=>⟨?_,Z⟩,λx xs ex=>?_⟩
 .have:x≠a:=λz=>by
   rw[z,b] at t;rcases t with t|t
   .exact d (List.cons.inj t).1
   .exact c (abe t)
  rw[aF this];exact ex
 .rw[aF (dD ex e λz=>n xs z.symm)];exact ex
theorem Fp{o:HO}(u:sU τ H):sU τ (upd H a o):=u.dom λy e=>by
 by_cases z:y=a
 .rw[z,ak] at e;cases e
 .rw[aF z] at e;exact e
theorem Ru.add{H0 H1 H2:Hp}{r:Addr}{W:wg}{S1:eO}{tl t u:Addr}{refs us:List V}{c:Tc}(b:Ru CW CH i j τ0 H0 τ H r W S S1 l a tl tls)(a0:H0 a=none)(p0:∀p∈tls,H0 p=none)(Q:Kr S1 c)(L:touch c.r=true)(w1:mC CW CH i τ H1 W (cA S1 c.k))(st:jH i τ H H1)(g:Same H1 H2)(e1:H2 t=some (.tup (tcV c)))(e2:H2 u=some (.tup [.int (gj c).1,.str (gj c).2.1,.int (gj c).2.2]))(G:H2 a=some (.lst refs))(F:tls[c.k]?=some p)(I:(upd H2 a (.lst (refs++[.ref u]))) p=some (.lst us)):
 Ru CW CH i j τ0 H0 τ (upd (upd H2 a (.lst (refs++[.ref u]))) p (.lst (us++[.ref t]))) r W S (cA S1 c.k) (l++[c]) a tl tls:=by
 have N:=b.j0;have D:=b.ji;obtain⟨M,pt,pa,K,w,dp⟩:=b.ps _ _ F;have B:=b.ta;have C:∀x o,H x=some o->τ x=[j]->H2 x=some o:=λx o e t=>g _ _ (st.keep _ _ e (by rw[t];intro z;exact D (abe z)));have J:∀x d,H x=some (.tup d)->H2 x=some (.tup d):=λx d e=>g _ _ (st.tup _ _ e);have X:=w1.same g;have T2:=(b.T.stp st).same g;have nl:∀{A:List V} d,HO.lst A ≠ .tup d:=by intro A d z;cases z
 have U:=X.mv (Gu (u:= .lst (refs++[.ref u])) N D B G nl) (Fp X.un);have T3:=T2.set (u:= .lst (refs++[.ref u])) G (by rw[B];simp);have v:H2 p=some (.lst us):=by rw[aF pa] at I;exact I
 have O:us=K:=by
  have:=C _ _ w M;rw[v] at this;cases this;rfl
 subst O;have w4:=U.mv (Gu (u:= .lst (us++[.ref t])) N D M I nl) (Fp U.un);have T4:=T3.set (u:= .lst (us++[.ref t])) I (by rw[M];simp)
 have s:∀x d,H2 x=some (.tup d)->(upd (upd H2 a (.lst (refs++[.ref u]))) p (.lst (us++[.ref t]))) x=some (.tup d):=λx d e=>by
  rw[aF (dD e v (by intro z;cases z)),aF (dD e G (by intro z;cases z))];exact e
 obtain⟨f,ea,da⟩:=b.ea
 have P:refs=f:=by
  have:=C _ _ ea B;rw[G] at this;cases this;rfl
 subst P;refine⟨w4,T4,?_,⟨refs++[.ref u],by rw[aF (Ne.symm pa),ak],?_⟩,B,?_,b.tt,b.nt,b.ne,λk q E=>?_,b.dj,⟨λx o e n m=>?_,b.fr.tg,λx d e=>s _ _ (J _ _ (b.fr.tup _ _ e)),λx e=>b.fr.dom x ?_⟩,N,D,λx hx=>(acG.mp hx).elim (b.Z2 x) λh=>by rw[acQ.mp h];exact L⟩
 .exact Run.app.mpr ⟨S1,b.R,Q,Z⟩
 .rw[ab1,ab1]
  exact iW (aR.keep (λx d e=>s _ _ (J _ _ e)) _ (cH tD Lw _) da) (Zw (x:=gj c) (s _ _ e2))
 .rw[aF (Ne.symm pt),aF (Ne.symm b.ne)]
  exact C _ _ b.et b.tt
 .obtain⟨Y,q1,q2,A,eq,dq⟩:=b.ps k q E
  refine⟨Y,q1,q2,?_⟩
  by_cases z:k=c.k
  .subst z
   rw[F] at E;cases E;rw[w] at eq;cases eq;refine⟨_,ak,?_⟩;rw[ac7,ab1];have:List.filter (λt:Tc=>decide (t.k=c.k)) [c]=[c]:=by simp
   rw[this];exact iW (aR.keep (λx d e=>s _ _ (J _ _ e)) _ (vL _) dq) (acr (s _ _ e1))
  .have qp:q≠p:=λy=>z (b.dj k c.k q E (by rw[y];exact F))
   refine⟨A,by rw[aF qp,aF q2];exact C _ _ eq Y,?_⟩
   have:List.filter (λt:Tc=>decide (t.k=k)) (l++[c])=l.filter λt=>decide (t.k=k):=by
    rw[ac7];have:¬c.k=k:=λy=>z y.symm;simp[this]
   rw[this];exact aR.keep (λx d e=>s _ _ (J _ _ e)) _ (vL _) dq
 .rw[aF (aA e (p0 p (aaK F))),aF (aA e a0)]
  exact g _ _ (st.keep _ _ (b.fr.keep _ _ e n m) (by rw[b.fr.tg _ _ e];exact m))
 .by_cases T:x=p
  .rw[T,ak] at e;cases e
  .rw[aF T] at e
   by_cases R:x=a
   .rw[R,ak] at e;cases e
   .rw[aF R] at e
    exact st.dom _ (g.free e)
structure Rx(CW CH:Addr)(i j:Nat)(τ0:Tg)(H0:Hp)(τ:Tg)(H:Hp)(r:Addr)(W:wg)(S:eO)(a tl:Addr)(n:Nat)(ps:List Addr):Prop where
 w:mC CW CH i τ H W S
 T:RT τ H r
 ea:H a=some (.lst [])
 ta:τ a=[j]
 et:H tl=some (.lst (ps.map V.ref))
 tt:τ tl=[j]
 nt:ps.length=n
 ne:a≠tl
 pe:∀(k:Nat) p,ps[k]?=some p->τ p=[j]/\p≠tl/\p≠a/\H p=some (.lst [])
 dj:∀(k k':Nat) p,ps[k]?=some p->ps[k']?=some p->k=k'
 fr:uD i τ0 H0 τ H
 p0:∀p∈ps,H0 p=none
theorem Rx.more{H0:Hp}{r:Addr}{W:wg}{d q:Addr}{ps:List Addr}(v:Rx CW CH i j τ0 H0 τ H r W S a d n ps)(O:j≠0)(N:j≠i)(t0:H0 d=none)(b:H q=none):
 Rx CW CH i j τ0 H0 (aQ τ q [j]) (upd (upd H q (.lst [])) d (.lst (ps.map V.ref++[.ref q]))) r W S a d (n+1) (ps++[q]):=by
 have s:=aH (o:=HO.lst []) b;have eq:(upd H q (.lst [])) q=some (.lst []):=ak;have C:=v.T.claim (t:=[j]) s b ⟨_,eq⟩;have u:=v.w.mv (Mv.claim (p:=q) (t:=[j]) s b) C.un;have w:∀x o,H x=some o->aQ τ q [j] x=τ x:=λx o e=>aU (aA e b);have J:aQ τ q [j] q=[j]:=bF;have f:uD i τ0 H0 (aQ τ q [j]) (upd H q (.lst [])):=v.fr.trans (.claim s b);have q0:H0 q=none:=v.fr.dom q b;generalize upd H q (.lst [])=H1 at s eq C u f ⊢;generalize aQ τ q [j]=D at C u w J f ⊢;have K:q≠d:=λz=>by rw[z,v.et] at b;cases b
 have M:q≠a:=λz=>by rw[z,v.ea] at b;cases b
 have g:=s _ _ v.et;have c:D d=[j]:=(w _ _ v.et).trans v.tt;have nl:∀{I:List V} E,HO.lst I ≠ .tup E:=by intro I E z;cases z
 have l:∀k,ps[k]? ≠ some q:=λk z=>by rw[(v.pe k q z).2.2.2] at b;cases b
 refine⟨u.mv (Gu O N c g nl) (Fp u.un),C.set g (by rw[c];simp),by rw[aF v.ne];exact s _ _ v.ea,(w _ _ v.ea).trans v.ta,by rw[ak,ab1];rfl,c,by simp[v.nt],v.ne,λk p h=>?_,λk F p h Q=>?_,⟨λx o e n m=>?_,f.tg,λx E e=>?_,λx e=>f.dom x ?_⟩,λp P=>?_⟩
 .rcases Nat.lt_or_ge k ps.length with z|z
  .rw[abU z] at h
   obtain⟨G,y,R,L⟩:=v.pe k p h;exact⟨(w _ _ L).trans G,y,R,by rw[aF y];exact s _ _ L⟩
  .rw[abj z] at h
   have:p=q:=by
    have:=aaK h;simpa using this
   subst this;exact⟨J,K,M,by rw[aF K];exact eq⟩
 .have side:∀k,(ps++[q])[k]?=some p->(k<ps.length/\ps[k]?=some p)\/(k=ps.length/\p=q):=λk h=>by
   rcases Nat.lt_or_ge k ps.length with z|z
   .rw[abU z] at h
    exact .inl ⟨z,h⟩
   .rw[abj z] at h
    have T:k-ps.length<1:=(aak.mp h).1;exact .inr ⟨by lia,by have:=aaK h;simpa using this⟩
  rcases side k h with ⟨_,B⟩|⟨B,G⟩<;>rcases side F Q with ⟨_,A⟩|⟨A,y⟩
  .exact v.dj k F p B A
  .rw[y] at B;exact ac' B (l k)
  .rw[G] at A;exact ac' A (l F)
  .lia
 .rw[aF (aA e t0)]
  exact f.keep _ _ e n m
 .rw[aF (aA e t0)]
  exact f.tup _ _ e
 .by_cases z:x=d
  .rw[z,ak] at e;cases e
  .rw[aF z] at e;exact e
 .rcases acG.mp P with h|h
  .exact v.p0 p h
  .rw[acQ.mp h];exact q0
theorem Rx.done{H0:Hp}{r:Addr}{W:wg}{b:Addr}{ps:List Addr}(v:Rx CW CH i j τ0 H0 τ H r W S a b S.hs.length ps)(d:j≠0)(c:j≠i):Ru CW CH i j τ0 H0 τ H r W S S [] a b ps:=
 ⟨v.w,v.T,Z,⟨[],v.ea,by simp[aR]⟩,v.ta,v.et,v.tt,v.nt,v.ne,λk p h=>let ⟨l,g,f,e⟩:=v.pe k p h;⟨l,g,f,[],e,by simp[aR]⟩,v.dj,v.fr,d,c,(λ_ h=>nomatch h)⟩
inductive Fw(CW CH:Addr)(K:zzy)(vs:List V)(H:Hp)(Q:VK)(dX:XK):Prop|m:∀(r:Addr)(i j:Nat)(τ:Tg)(W:wg)(S:eO)(m:Nat),vs=[.ref r,.ref W.o,.int S.hs.length,.int m]->RT τ H r->mC CW CH i τ H W S->kJ S->S.ts.length<=100->m<=50->S.hs.length<=8->j≠0->j≠i->(∀(t a tl:Addr)(tls:List Addr)(l:List Tc)(S1:eO)(τ':Tg)(H':Hp),H' t=some (.tup [.ref a,.ref tl])->Ru CW CH i j τ H τ' H' r W S S1 l a tl tls->l.length<=m->Q (.ref t) H')->Fw CW CH K vs H Q dX
theorem YD(F:fZ K "_law_run" "_law_run" KQ f fd)(b_:FnAt P w K mg base 1 "_law_draw" ["reel","many"] (kO K))(aN:dz K ao)(rE:MethAt P w K mg base 4 ao "how" ["self","hand"] (λvs H Q _=>Dy ao aq bI K vs H Q λ_ _ _=>False))(jh:MethAt P w K mg base 7 ao "turn" ["self","hand"] (λvs H Q _=>wU ao aq bI cY K vs H Q λ_ _ _=>False))(Bt:nR mg):bR P w K mg base iB 9 f fd ["reel","works","hands","turns"] (Fw ao aq K):=by
 refine F.ok oY (λvs H Q E h=>?_) (λc4 A b2 s H vs Q E hr h=>?_)
 .obtain⟨r,i,j,I,W,S,m,rfl,_⟩:=h
  rfl
 .obtain⟨r,i,j,I,W,S,m,rfl,T,w,g,tl,c3,n8,j0,ji,k⟩:=h
  have qX:=hr.units
  refine⟨_,(aB (bH (i:=4) oY.nd rfl (Or.inl rfl) (cJ au))
   (aB (mL (i:=5) rfl oY.nd rfl (Or.inl rfl) (N:=["k"]) (own:=["k"]) (caps:=[]) (bB.of (by kernel_rfl)) (cP (by rfl) Bt.dI (aj (pv 2) au)) (λ_ _ _ _=>(bK (i:=0) (show List.Nodup (["k"]:List Str) by decide +kernel) rfl (Or.inl rfl))) (λ_ _ _ _=>dF) (λ_ _ _ _=>(cJ au)))
   (aB (iQ PassesOwn.never rfl (cP (by rfl) Bt.dI (aj (pv 3) au)) (bK (i:=6) oY.nd rfl (Or.inl rfl))
   (aB (mL (i:=7) rfl oY.nd rfl (Or.inl rfl) (N:=["k","works"]) (own:=["k"]) (caps:=[1]) (bB.of (by kernel_rfl)) (cP (by rfl) Bt.dI (aj (pv 2) au)) (λ_ _ _ _=>(bK (i:=0) (show List.Nodup (["k","works"]:List Str) by decide +kernel) rfl (Or.inl rfl))) (λ_ _ _ _=>(rZ (bD eV (cL rE aN.cls (hr.mono (by decide)) (pv 1) (aj (pv 0) au)) bT (bA _)))) (λ_ _ _ _=>(pv 0)))
   (aB (cj (bD (vA (K:=K) rfl qX) (pv 7) (cJ au) (bA _)) (aJ Ul) bJ)
   (aB (bH (i:=8) oY.nd rfl (Or.inl rfl) (aO (aL (K:=K) rfl) (pv 7) (bN b_ (hr.mono (by decide)) (by rfl) (aj (pv 0) (aj (aV (aW (K:=K) rfl) (by rfl) Bt.dJ cG (aj (pv 7) au)) au))) (λ_ _=>rfl)))
   (aB (bH (i:=9) oY.nd rfl (Or.inl rfl) (cL jh aN.cls (hr.mono (by decide)) (pv 1) (aj (pv 8) au)))
   (aB (cN (dO (K:=K) rfl (pv 4) (aj (dY (aj (pv 8) (aj (aO (aX (K:=K) rfl) (pv 9) aG (λ_ _=>rfl)) (aj (aO (aX (K:=K) rfl) (pv 9) aG (λ_ _=>rfl)) au)))) au)))
   (aJ (cN (dO (K:=K) rfl (aO (aL (K:=K) rfl) (pv 5) (pv 8) (λ_ _=>rfl)) (aj (pv 9) au))))))))))
   (aJ (bw (dY (aj (pv 4) (aj (pv 5) au)))))))),?_⟩
  show Ik _ _ _ [some (.ref r),some (.ref W.o),some (.int S.hs.length),some (.int m),none,none,none,none,none,none] H;refine⟨by show 0<=sizeLine;exact Nat.zero_le _,λa ha=>?_⟩;have s1:=aH (o:=HO.lst []) ha;have ea:(upd H a (.lst [])) a=some (.lst []):=ak;have T1:=T.claim (t:=[j]) s1 ha ⟨_,ea⟩;have w1:=w.mv (Mv.claim (p:=a) (t:=[j]) s1 ha) T1.un;have f1:uD i I H (aQ I a [j]) (upd H a (.lst [])):= .claim s1 ha;have ta:aQ I a [j] a=[j]:=bF;generalize upd H a (.lst [])=H1 at s1 ea T1 w1 f1 ⊢;generalize aQ I a [j]=b0 at T1 w1 f1 ta;refine⟨_,Z,_,Z,by lia,by lia,λD hD=>?_⟩;rw[acd];show jk _ _ _ _ _ _ [none] H1;have sD:=aH (o:=HO.lst []) hD;have eD:(upd H1 D (.lst [])) D=some (.lst []):=ak;have TD:=T1.claim (t:=[j]) sD hD ⟨_,eD⟩;have wD:=w1.mv (Mv.claim (p:=D) (t:=[j]) sD hD) TD.un;have fD:uD i I H (aQ b0 D [j]) (upd H1 D (.lst [])):=f1.trans (.claim sD hD);have aD:a≠D:=aA ea hD;have D0:H D=none:=f1.dom D hD;refine jD (lo:=0) (n:=S.hs.length) (λn σ Hn=>∃(v:Option V) (a2:Tg) (ps:List Addr),σ=[v]/\Rx ao aq i j I H a2 Hn r W S a D n ps) ⟨_,_,[],Z,⟨wD,TD,sD _ _ ea,(aU aD).trans ta,eD,bF,Z,aD,λk p h=>by simp at h,λk G p h=>by simp at h,fD,λp h=>by simp at h⟩⟩ ?_ ?_
  .rintro n σ Hn hn ⟨v,a2,ps,rfl,X⟩
   dsimp only[bU,yK];rw[ac_ rfl];refine⟨by show 0<=sizeLine;exact Nat.zero_le _,λq hq=>?_⟩;have qD:D≠q:=aA X.et hq;refine⟨_,by rw[aF qD];exact X.et,?_,_,_,_,Z,X.more j0 ji D0 hq⟩;rw[aae,X.nt,sizeLine_eq];lia
  rintro σ H3 ⟨v,a9,C,rfl,X⟩;have p0:=X.p0;have B:=X.done j0 ji;clear X;refine⟨_,Z,(m:Int),Z,by lia,by lia,?_⟩;rw[acd]
  have a5:∀(x6 x7 x8 x9:Option V)(b:Tg)(Y:Hp)(l:List Tc)(S1:eO),Ru ao aq i j I H b Y r W S S1 l a D C->l.length<=m->Xx (aaX (jo (eG 4) (jo (eG 5) uM))) {nx:=λx H'=>Q V.non H',rt:=Q} [some (.ref r),some (.ref W.o),some (.int S.hs.length),some (.int m),some (.ref a),some (.ref D),x6,x7,x8,x9] Y:=λx6 x7 x8 x9 b Y l S1 B hl=>by
   refine⟨_,Z,_,Z,by show 2<=sizeLine;decide,λt ht=>?_⟩;have s5:=aH (o:=HO.tup [V.ref a,V.ref D]) ht;exact k t a D C l S1 b _ ak (B.mv (B.w.same s5) (B.T.same s5) (.same s5)) hl
  refine gD (λn σ Y=>∃(x6 x7 x8 x9:Option V) (b:Tg) (l:List Tc) (S1:eO),σ=[some (.ref r),some (.ref W.o),some (.int S.hs.length),some (.int m),some (.ref a),some (.ref D),x6,x7,x8,x9]/\Ru ao aq i j I H b Y r W S S1 l a D C/\l.length<=n) ⟨_,_,_,_,a9,[],S,Z,B,aaw _⟩ ?_ ?_
  .rintro n σ Y hn ⟨x6,x7,x8,x9,b,l,S1,rfl,B,hl⟩
   have a0:=(qI B.R).1;have w4:=B.w;rw[←a0];refine⟨_,Z,_,Z,by lia,by lia,λDw O=>?_⟩;rw[acd];show jk _ _ _ _ _ _ (none::[some (.ref W.o)]) Y;refine agz w4 (by lia) O λH5 s5 e5=>?_;have T5:=B.T.claim (t:=[j+i+1]) s5 O ⟨_,e5⟩;have w5:=w4.mv (Mv.claim (p:=Dw) (t:=[j+i+1]) s5 O) T5.un;have a4:=B.mv w5 T5 (.claim s5 O);have a3:aQ b Dw [j+i+1] Dw=[j+i+1]:=bF;generalize aQ b Dw [j+i+1]=d at T5 w5 a4 a3
   have wm:(uJ S1.hs).length<=8:=by
    have:=List.length_filter_le (kE S1.hs) (List.range S1.hs.length);unfold uJ;rw[List.length_range] at this;lia
   refine⟨_,Z,by show 0<=sizeLine;exact Nat.zero_le _,λp6 b5=>?_⟩;have s6:=aH (o:=HO.lst []) b5;have e6:(upd H5 p6 (.lst [])) p6=some (.lst []):=ak;have U:=a4.mv (w5.same s6) (T5.same s6) (.same s6);have R:=s6 _ _ e5;generalize upd H5 p6 (.lst [])=H6 at s6 e6 U R ⊢;have c2:H6 Dw=some (.lst (((uJ S1.hs).map λk:Nat=>(k:Int)).map V.int)):=by rw[R,acV];rfl
   refine⟨_,_,dh c2,dh (ns:=[]) e6,shaped_ints _,shaped_ints [],_,Z,?_⟩;rw[ac9 aaV,lX PyData.int vU];refine cO (λ_=>?_) (λne=>?_)
   .have:=a5 (some (.int (0+(n:Int)))) (some (.ref Dw)) x8 x9 d H6 l S1 U (by lia)
    rw[←a0] at this;exact this
   have wn:0<(uJ S1.hs).length:=by
    cases q:uJ S1.hs with
    | nil=>exact ac' (by rw[q];rfl) ne
    | cons _ _=>simp
   unfold uN;dsimp only;refine⟨_,Z,_,Z,_,Z,Dw,_,Z,.inl (bG.of R),?_⟩;rw[aae];refine⟨r,_,Z,U.T.R,by lia,by lia,λz H7 z0 z1 R7 k7=>?_⟩;obtain⟨z,rfl⟩:=ac3 z0;have T7:=U.T.draw k7 R7;have w7:=U.w.mv (U.T.kr k7) T7.un;have e7:=U.T.keep k7 R (by rw[a3];simp);have d7:=Dr.draw U.T k7
   have f7:uD i d H6 d H7:=⟨λx o e nn _=>d7.k _ _ e nn,λ_ _ _=>rfl,d7.t,λx e=>by
    by_cases q:x=r
    .obtain⟨g',c',_,_,_,_,er,_⟩:=R7
     rw[q,er] at e;cases e
    .cases q':H6 x with
     | none=>rfl
     | some o=>rw[d7.p _ _ q' q] at e;cases e⟩
   have y:=U.mv w7 T7 f7;have zl:z<(uJ S1.hs).length:=by lia
   obtain⟨kk,ek⟩:∃kk,(uJ S1.hs)[z]?=some kk:=⟨_,aaj zl⟩;refine⟨Dw,_,z,.int kk,Z,Z,bG.of e7,bL (by rw[aam,ek];rfl),?_⟩;obtain⟨hs,a6,b1⟩:=PX ek;have kl:=(aak.mp a6).1;have b4:wC (kk:Int) S1.hs.length:=⟨by lia,by lia⟩
   have SN:S1.ts.length<=10000:=by
    rw[Bf B.R,abf,aae];lia
   refine⟨_,Z,W.o,W.dx,_,Z,w7.o,Z,_,Z,i,d,W,S1,_,Z,w7,SN,λG s' r' t H8 q1 es ws er tr tf tk wk L=>?_,λz=>ac' b4 z,λG s' q1 es nw=>?_⟩
   rotate_left
   .have:G=kk:=by lia
    subst this;rw[a6] at es;cases es;exact ac' b1 nw
   have:G=kk:=by lia
   subst this;obtain⟨c,M⟩:∃c:Tc,c=⟨G,r',Bg S1.ns r',MN s'.bs r'⟩:=⟨_,Z⟩;have J:c.k=G:=by rw[M]
   have c1:Kr S1 c:=by rw[M];exact⟨s',es,ws,er,Z,Z⟩
   have et:H8 t=some (.tup (tcV c)):=by rw[tk,M];rfl
   rw[←J] at wk;obtain⟨refs,b7,c0⟩:=y.ea;have hd:∀x,d x=[j]->(d x).head?≠some i:=λx e=>by rw[e];intro q;exact ji (abe q)
   have a8:=L.keep _ _ b7 (hd _ y.ta);have rl:refs.length=l.length:=by rw[c0.length,aae,aae]
   refine⟨_,Z,.inl ⟨Z,_,bG.of a8⟩,_,Z,_,Z,_,_,_,_,Z,Z,cD.of et,Z,_,Z,_,_,_,_,Z,Z,cD.of et,Z,(by show 3<=sizeLine;decide),λu hu=>?_⟩;have su:=aH (o:=HO.tup [V.int G,V.str (tG c.r),V.int (jd c.r)]) hu;have eu:(upd H8 u (.tup [V.int G,V.str (tG c.r),V.int (jd c.r)])) u=some (.tup [.int (gj c).1,.str (gj c).2.1,.int (gj c).2.2]):=by rw[ak];unfold gj;rw[J]
   generalize upd H8 u (.tup [V.int G,V.str (tG c.r),V.int (jd c.r)])=H9 at su eu ⊢;have a7:=su _ _ a8;refine⟨_,_,_,Z,Z,a7,(by rw[rl,sizeLine_eq];lia),?_⟩;have b3:c.k<C.length:=by rw[B.nt,←a0,J];exact kl
   obtain⟨p,hp⟩:∃p,C[c.k]?=some p:=⟨_,aaj b3⟩;obtain⟨tp,pt,pa,us,b6,b9⟩:=y.ps _ _ hp;have a1:(upd H9 a (.lst (refs++[.ref u]))) p=some (.lst us):=by rw[aF pa];exact su _ _ (L.keep _ _ b6 (hd _ tp))
   have b8:(upd H9 a (.lst (refs++[.ref u]))) D=some (.lst (C.map V.ref)):=by rw[aF (Ne.symm y.ne)];exact su _ _ (L.keep _ _ y.et (hd _ y.tt))
   have ul:us.length<=l.length:=by
    rw[b9.length,aae];exact List.length_filter_le _ _
   refine⟨_,Z,_,Z,D,_,G,.ref p,Z,Z,bG.of b8,bL (by rw[aam,←J,hp];rfl),.inl ⟨Z,_,bG.of a1⟩,_,Z,p,us,.ref t,Z,Z,a1,(by rw[sizeLine_eq];lia),?_⟩;refine⟨_,_,_,_,d,l++[c],cA S1 c.k,Z,y.add ha p0 c1 (by rw[M];exact tr) wk L su (su _ _ et) eu a7 hp a1,by simp;lia⟩
  .rintro σ Y ⟨x6,x7,x8,x9,b,l,S1,rfl,B,hl⟩
   exact a5 _ _ _ _ _ _ _ _ B hl
theorem Jy{r:Rw}(t:touch r=true):isLoad r=true↔tG r = "load" :=by
 cases r<;>first |(exact⟨λ_=>rfl,λ_=>rfl⟩)|(refine⟨λz=>?_,λz=>?_⟩<;>first |(cases z;done)|(exact ac' z (by decide))|(cases t;done))
theorem Ip{x y:Tc}(b:touch x.r=true)(ty:touch y.r=true):stepT x y↔(gj x).1=(gj y).1\/RM (gj x) (gj y)=true:=by
 rw[Ot];unfold stepT apart gj;dsimp only;rw[Jy b,Jy ty];constructor
 .rintro(h|h)
  .exact .inl (by rw[h])
  .by_cases z:(x.k:Int)=y.k
   .exact .inl z
   .refine .inr ⟨z,?_,?_⟩
    .have:jd x.r=jd y.r:=Classical.byContradiction λq=>h (.inl q)
     rw[this]
    .by_cases q:tG x.r = "load"
     .exact .inr λd=>h (.inr ⟨q,d⟩)
     .exact .inl q
 .rintro(h|⟨n,c,w⟩)
  .exact .inl (by lia)
  .refine .inr ?_
   rintro(z|⟨z,a⟩)
   .exact z (by have:=c;first |lia|exact Int.ofNat.inj c)
   .rcases w with w|w
    .exact w z
    .exact w a
theorem Cu.cl(f:∀x∈l,touch x.r=true){o:List Nat}(h:Cu l o):∀a b,a<b->Yw (l.map gj) a b\/Vs (l.map gj) a b->b∈o->a∈o:=by
 have gt:∀{m:Nat}{u:mD},(l.map gj)[m]?=some u -> ∃x,l[m]?=some x/\u=gj x:=fun {m u} e=>by
  rw[aam] at e;cases q:l[m]? with
  | none=>rw[q] at e;cases e
  | some x=>rw[q] at e;exact⟨x,Z,(abe e).symm⟩
 induction h with
 | nil=>intro a b _ _ m;cases m
 | @snoc o c x h e n q j=>
   intro a b lt s m;rcases acG.mp m with m|m
   .exact acG.mpr (.inl (j a b lt s m))
   .have:b=c:=by simpa using m
    subst this;refine acG.mpr (.inl ?_)
    have:∃y,l[a]?=some y/\((gj y).1=(gj x).1\/RM (gj y) (gj x)=true):=by
     rcases s with ⟨u,v,i,g,s⟩|⟨u,v,i,g,s⟩<;>obtain⟨y,d,rfl⟩:=gt i<;>obtain⟨k,ex,rfl⟩:=gt g<;>rw[e] at ex<;>cases ex
     .exact⟨y,d,.inl s⟩
     .exact⟨y,d,.inr s⟩
    obtain⟨y,d,s⟩:=this;exact q a y lt d ((Ip (f _ (aaK d)) (f _ (aaK e))).mpr s)
theorem Cu.add(d:∀x∈l,touch x.r=true){o:List Nat}(h:Cu l o){a:Nat}{x:Tc}(e:l[a]?=some x)(n:a∉o)(own:∀m y,m<a->l[m]?=some y->y.k=x.k->m∈o)(c:∀m,tH (l.map gj) few m a->m∈o):Cu l (o++[a]):=by
 refine .snoc h e n λm y lt f s=>?_;have k:∀{m:Nat}{y:Tc},l[m]?=some y->(l.map gj)[m]?=some (gj y):=fun {m y} e=>by rw[aam,e];rfl
 rcases(Ip (d _ (aaK f)) (d _ (aaK e))).mp s with s|s
 .exact own m y lt f (by unfold gj at s;dsimp only at s;lia)
 .refine mG (own:=Yw (l.map gj)) (meet:=Vs (l.map gj)) (few:=few=true) (D:=λm=>m∈o) (h.cl d) (j:=a) (λi li ⟨u,v,b,g,s⟩=>?_) (λi z=>c i z) (a-m) m lt (aaw _) ⟨_,_,k f,k e,s⟩
  rw[aam] at b g;rw[e] at g;cases g;cases q:l[i]? with
  | none=>rw[q] at b;cases b
  | some p=>
    rw[q] at b;cases b;exact own i p li q (by unfold gj at s;dsimp only at s;lia)
theorem ae1(a b c d:V):lY [a,b,c,d] none (some 2)=[a,b]:=Ce _ 2
theorem ae0(a b c d:V):lY [a,b,c,d] (some 2) none=[c,d]:=JT _ 2
theorem aby{α:Type}(xs:List α)(h:xs.length=4):¬(HT.jm xs.length 0 none=0/\HT.jm xs.length xs.length (some 2)=xs.length):=by
 rw[h];decide
theorem abx{α:Type}(xs:List α)(h:xs.length=4):¬(HT.jm xs.length 0 (some 2)=0/\HT.jm xs.length xs.length none=xs.length):=by
 rw[h];decide
def nt(H H':Hp):Hp:=λx=>match H' x with
 | some (.tup xs)=>some (.tup xs)
 | o=>match H x with
   | none=>o
   | some _=>none
theorem abP{x:Addr}(e:H' x=some (.tup xs)):nt H H' x=some (.tup xs):=by unfold nt;rw[e]
theorem aal{x:Addr}{o:HO}(n:H x=none)(e:H' x=some o):nt H H' x=some o:=by
 unfold nt;rw[e,n];cases o<;>rfl
theorem abR{x:Addr}{o:HO}(e:nt H H' x=some o):H' x=some o/\((∃xs,o=.tup xs)\/H x=none):=by
 unfold nt at e;split at e
 .rename_i xs q
  cases e;exact⟨q,.inl ⟨_,Z⟩⟩
 .cases q:H x with
  | none=>rw[q] at e;exact⟨e,.inr rfl⟩
  | some u=>rw[q] at e;cases e
def pU(τ:Tg)(H:Hp):Hp:=λx=>match H x with
 | some (.tup xs)=>some (.tup xs)
 | o=>if τ x=[0] then o else none
theorem qg{x:Addr}(e:H x=some (.tup xs)):pU τ H x=some (.tup xs):=by unfold pU;rw[e]
theorem uO{x:Addr}{o:HO}(t:τ x=[0])(e:H x=some o):pU τ H x=some o:=by
 unfold pU;rw[e];cases o<;>simp only[t,if_true]<;>rfl
theorem Ab{x:Addr}{o:HO}(e:pU τ H x=some o):H x=some o/\((∃xs,o=.tup xs)\/τ x=[0]):=by
 unfold pU at e;split at e
 .rename_i xs q
  cases e;exact⟨q,.inl ⟨_,Z⟩⟩
 .by_cases t:τ x=[0]
  .rw[ac_ t] at e;exact⟨e,.inr t⟩
  .rw[ac9 t] at e;cases e
theorem rO(τ:Tg)(H:Hp):Same (pU τ H) H:=λx o e=>(Ab e).1
theorem oO(q:Mv i τ H τ' H'):Same (pU τ H) (pU τ' H'):=λx o e=>by
 obtain⟨e,⟨a,rfl⟩|t⟩:=Ab e
 .exact qg (q.tup _ _ e)
 .have:=q.keep x o e (.inl t)
  exact uO (this.2.trans t) this.1
theorem gO(q:jH i τ H H')(a:i≠0):Same (pU τ H) (pU τ H'):=λx o e=>by
 obtain⟨e,⟨b,rfl⟩|t⟩:=Ab e
 .exact qg (q.tup _ _ e)
 .exact uO t (q.keep x o e (by rw[t];intro z;exact a (abe z).symm))
def RK(τ:Tg)(H H':Hp):Tg:=λx=>match H x with
 | some _=>τ x
 | none=>match H' x with
   | some _=>[0]
   | none=>τ x
theorem Xv{x:Addr}{o:HO}(e:H x=some o):RK τ H H' x=τ x:=by unfold RK;rw[e]
theorem Xw{x:Addr}{o:HO}(n:H x=none)(e:H' x=some o):RK τ H H' x=[0]:=by unfold RK;rw[n];simp only[e]
theorem aaU(k:Same H H')(u:sU τ H):sU (RK τ H H') H':=λx e=>by
 have n:=k.free e;unfold RK;rw[n];simp only[e];exact u x n
theorem abQ:Same (nt H H') (pU (RK τ H H') H'):=λx o e=>by
 obtain⟨e,⟨a,rfl⟩|n⟩:=abR e
 .exact qg e
 .exact uO (Xw n e) e
abbrev PK:=Int×Int
def pD(x:PK):PyData:= .tuple [.int x.1,.int x.2]
theorem qU(x:PK):CK (pD x)=true:=Z
theorem Pa{t:Addr}{x:PK}(h:H t=some (.tup [.int x.1,.int x.2])):Dat H (.ref t) (pD x):=by
 simp only[pD,Dat];exact⟨t,_,Z,h,by simp only[aR,Dat,and_self]⟩
theorem JR{x:PK}(h:Dat H v (pD x)):∃t,v=.ref t/\H t=some (.tup [.int x.1,.int x.2]):=by
 simp only[pD,Dat] at h;obtain⟨t,c,e,q,d⟩:=h
 match c,d with
 | [a,b],d=>
   simp only[aR,Dat,and_true] at d;obtain⟨rfl,rfl⟩:=d;exact⟨t,e,q⟩
 | [],d=>simp only[aR] at d
 | [_],d=>simp only[aR,and_false] at d
 | _::_::_::_,d=>simp only[aR,and_false] at d
def rC(H:Hp)(a:Addr)(ps:List PK):Prop:=∃vs,H a=some (.lst vs)/\aR H vs (ps.map pD)
theorem rC.same{ws:List PK}(h:rC H a ws)(k:Same H H'):rC H' a ws:=by
 obtain⟨b,e,d⟩:=h;exact⟨b,k _ _ e,aR.keep k.tups _ (cH _ qU ws) d⟩
theorem Yn{ps:List PK}(d:aR H vs (ps.map pD))(e:vs[i]?=some v):∃x t,ps[i]?=some x/\v=.ref t/\H t=some (.tup [.int x.1,.int x.2]):=by
 obtain⟨q,eq,b⟩:=d.get e;rw[aam] at eq;cases ex:ps[i]? with
 | none=>rw[ex] at eq;cases eq
 | some x=>
   rw[ex] at eq;cases eq;obtain⟨t,rfl,a⟩:=JR b;exact⟨x,t,Z,Z,a⟩
def ft(x:Nt):PK:=(x.1,x.2.1)
def cQ(ns:List Nt)(o m:Int):List PK:=(ns.filter λx=>decide (x.2.2.1=o)&&decide (x.2.2.2=m)).map ft
theorem Dd(ns:List Nt)(x:Nt)(o m:Int):cQ (ns++[x]) o m=cQ ns o m++(if x.2.2.1=o/\x.2.2.2=m then [ft x] else []):=by
 unfold cQ;rw[ac7,ab1];congr 1
 by_cases e:x.2.2.1=o/\x.2.2.2=m
 .simp[e.1,e.2]
 .rw[ac9 e]
  by_cases a:x.2.2.1=o
  .have b:¬x.2.2.2=m:=λz=>e ⟨a,z⟩
   simp[b]
  .simp[a]
def mz(H:Hp)(f:Addr)(ns:List Nt):Prop:=∃kvs,H f=some (.dT kvs) /\ ∀o m:Int,(gw kvs [Sum.inl o,Sum.inl m]=none/\cQ ns o m=[]) \/ ∃l,gw kvs [Sum.inl o,Sum.inl m]=some (.ref l)/\rC H l (cQ ns o m)
theorem mz.same{H H':Hp}{f:Addr}{ns:List Nt}(h:mz H f ns)(k:Same H H'):mz H' f ns:=by
 obtain⟨a,e,q⟩:=h;refine⟨a,k _ _ e,λo m=>?_⟩;rcases q o m with z|⟨l,c,b⟩
 .exact .inl z
 .exact .inr ⟨l,c,b.same k⟩
inductive Ai(K:zzy)(vs:List V)(H:Hp)(Q:VK)(dX:XK):Prop|m:∀(t c a:Addr)(cs:List Int)(ns:List Nt),vs=[.ref t]->RecAt H t c a cs ns->Fb cs ns->(∀(f:Addr)(H':Hp),H f=none->mz (nt H H') f ns->Same H H'->Q (.ref f) H')->Ai K vs H Q dX
theorem QB(F:fZ K "firsts_of" "firsts_of" qz f fd):bR P w K mg base iB 1 f fd ["record"] (Ai K):=by
 refine F.ok oX (λvs H Q E h=>?_) (λc0 A b2 s H vs Q E hr h=>?_)
 .obtain⟨t,c,a,cs,r,rfl,_⟩:=h
  rfl
 .obtain⟨t,c,a,cs,r,rfl,R,ok,k⟩:=h
  have hu:=aat hr;obtain⟨ht,hc,Vl,ha,dn⟩:=id R;have b3:Vl.length=r.length:=by rw[dn.length,aae]
  have nl:=ok.2.1
  refine⟨_,(aB (bH (i:=1) oX.nd rfl (Or.inl rfl) Uy)
   (aB (iQ PassesOwn.never rfl (dg (K:=K) rfl (aO (aX (K:=K) rfl) (pv 0) aG (λ_ _=>rfl))) (bK (i:=2) oX.nd rfl (Or.inl rfl))
   (aJ (cN (dO (K:=K) rfl (Ux hu (pv 1) (jR (NP (K:=K) rfl) (pv 2) (mO aG) mQ) (cJ au) ⟨Z,Z,Z,Z⟩) (aj (jR (NP (K:=K) rfl) (pv 2) mQ (mO aG)) au)))))
   (aJ (bw (pv 1))))),?_⟩
  intro f hf;have s1:=aH (o:=HO.dT []) hf;refine⟨_,Z,_,_,_,_,Z,Z,cD.of (s1 _ _ ht),Z,a,Z,⟨_,bG.of (s1 _ _ ha)⟩,?_⟩
  refine vP (K:=K) (a:=a) (xs:=Vl) (λi σ H2=>∃(x:Option V) (d:List (List Key×V)),σ=[some (.ref t),some (.ref f),x]/\Same H H2/\H2 f=some (.dT d)/\d.length<=i /\
   (∀o m:Int,(gw d [Sum.inl o,Sum.inl m]=none/\cQ (r.take i) o m=[]) \/ ∃l,gw d [Sum.inl o,Sum.inl m]=some (.ref l)/\rC H2 l (cQ (r.take i) o m)/\H l=none/\l≠f) /\
   (∀(o m u B:Int) l,gw d [Sum.inl o,Sum.inl m]=some (.ref l)->gw d [Sum.inl u,Sum.inl B]=some (.ref l)->o=u/\m=B))
   ⟨none,[],Z,s1,ak,Nat.zero_le _,λo m=> .inl ⟨Z,Z⟩,λo m u B l h=>by cases h⟩ (λi σ H2 _ ⟨_,_,_,L,_⟩=>bG.of (L _ _ ha)) ?_ ?_
  .rintro i v σ H2 hi ⟨x0,d,rfl,L,hF,kl,g,inj⟩
   obtain⟨x,w,ex,rfl,hx⟩:=zy dn hi;have il:i<Vl.length:=(aak.mp hi).1;have a5:=L _ _ hx;have tk:r.take (i+1)=r.take i++[x]:=by rw[acU,ex];rfl
   refine JM (λv O=>∃l I,v=.ref l/\Same H O/\(∀a xs,H2 a=some (HO.tup xs)->O a=some (HO.tup xs))/\O f=some (.dT I)/\I.length<=i+1/\gw I [Sum.inl x.2.2.1,Sum.inl x.2.2.2]=some (.ref l) /\
    (∀o m:Int,(gw I [Sum.inl o,Sum.inl m]=none/\cQ (r.take i) o m=[]) \/ ∃l,gw I [Sum.inl o,Sum.inl m]=some (.ref l)/\rC O l (cQ (r.take i) o m)/\H l=none/\l≠f) /\
    (∀(o m u B:Int) l,gw I [Sum.inl o,Sum.inl m]=some (.ref l)->gw I [Sum.inl u,Sum.inl B]=some (.ref l)->o=u/\m=B)) (λQ' kQ=>?_) ?_
   .refine⟨_,Z,f,Z,.inr ⟨_,.inl hF⟩,_,Z,_,Z,_,_,Z,cD.of a5,abx _ rfl,λp1 b7=>?_⟩
    have c2:lY (nV x) (some 2) none=[.int x.2.2.1,.int x.2.2.2]:=ae0 ..;rw[c2];have S:=aH (o:=HO.tup [V.int x.2.2.1,V.int x.2.2.2]) b7;refine⟨(by show 0<=sizeLine;decide),λe he=>?_⟩;have a0:=aH (o:=HO.lst []) he;have n:=S.trans a0;refine⟨d,[Sum.inl x.2.2.1,Sum.inl x.2.2.2],p1,n _ _ hF,Z,a0 _ _ ak,by rw[sizeLine_eq];lia,λv hv=>?_,λhn=>?_⟩
    .rcases g x.2.2.1 x.2.2.2 with z|⟨l,e1,e2,e3,e4⟩
     .rw[z.1] at hv;cases hv
     .rw[e1] at hv
      cases hv;refine kQ _ _ ⟨l,d,Z,L.trans n,n.tups,n _ _ hF,by lia,e1,λo m=>?_,inj⟩;rcases g o m with z|⟨M,C,X,N,G⟩
      .exact .inl z
      .exact .inr ⟨M,C,X.same n,N,G⟩
    .have kF:Kp f (upd (upd H2 p1 (.tup [V.int x.2.2.1,V.int x.2.2.2])) e (.lst [])) (upd (upd (upd H2 p1 (.tup [V.int x.2.2.1,V.int x.2.2.2])) e (.lst [])) f (.dT (putK d [Sum.inl x.2.2.1,Sum.inl x.2.2.2] (.ref e)))):=Kp.set
     have a4:e≠f:=λz=>by rw[←z] at hF;rw[S _ _ hF] at he;cases he
     have b8:(upd (upd H2 p1 (.tup [V.int x.2.2.1,V.int x.2.2.2])) e (.lst [])) f=some (.dT d):=n _ _ hF;have a6:H2 e=none:=S.free he;have tF:∀a xs,(upd (upd H2 p1 (.tup [V.int x.2.2.1,V.int x.2.2.2])) e (.lst [])) a=some (HO.tup xs)->(upd (upd (upd H2 p1 (.tup [V.int x.2.2.1,V.int x.2.2.2])) e (.lst [])) f (.dT (putK d [Sum.inl x.2.2.1,Sum.inl x.2.2.2] (.ref e)))) a=some (HO.tup xs):=λa xs h=>kF _ _ h (dD h b8 (by intro z;cases z))
     have p:∀o m:Int,([Sum.inl o,Sum.inl m]:List Key)=[Sum.inl x.2.2.1,Sum.inl x.2.2.2]↔o=x.2.2.1/\m=x.2.2.2:=λo m=>by
      constructor
      .intro z;injection z with z1 z2;injection z2 with z2 _;exact⟨Sum.inl.inj z1,Sum.inl.inj z2⟩
      .rintro⟨rfl,rfl⟩;rfl
     refine kQ _ _ ⟨e,_,Z,λb o eb=>kF _ _ ((L.trans n) _ _ eb) (aA eb hf),λa xs h=>tF _ _ (n.tups _ _ h),ak,?_,by rw[zZ,ac_ rfl],λo m=>?_,λo m u B l h1 W=>?_⟩
     .exact ac5 (yw ..) (by lia)
     .rw[zZ]
      by_cases q:o=x.2.2.1/\m=x.2.2.2
      .rw[ac_ ((p o m).mpr q)]
       obtain⟨rfl,rfl⟩:=q;refine .inr ⟨e,Z,?_,L.free a6,a4⟩;rcases g x.2.2.1 x.2.2.2 with z|⟨l,e1,_⟩
       .rw[z.2]
        exact⟨[],kF _ _ ak a4,by simp[aR]⟩
       .rw[e1] at hn;cases hn
      .rw[ac9 λz=>q ((p o m).mp z)]
       rcases g o m with z|⟨M,C,X,N,G⟩
       .exact .inl z
       .refine .inr ⟨M,C,?_,N,G⟩
        obtain⟨J,g1,g2⟩:=X.same n;exact⟨J,kF _ _ g1 G,aR.keep tF _ (cH _ qU _) g2⟩
     .rw[zZ] at h1 W
      have old:∀o m:Int,gw d [Sum.inl o,Sum.inl m]=some (V.ref e)->False:=λo m h=>by
       rcases g o m with z|⟨M,C,⟨J,g1,_⟩,N,G⟩
       .rw[z.1] at h;cases h
       .rw[C] at h
        cases h;rw[a6] at g1;cases g1
      by_cases q:o=x.2.2.1/\m=x.2.2.2
      .rw[ac_ ((p o m).mpr q)] at h1
       cases h1
       by_cases Y:u=x.2.2.1/\B=x.2.2.2
       .exact⟨q.1.trans Y.1.symm,q.2.trans Y.2.symm⟩
       .rw[ac9 λz=>Y ((p u B).mp z)] at W
        exact(old _ _ W).elim
      .rw[ac9 λz=>q ((p o m).mp z)] at h1
       by_cases Y:u=x.2.2.1/\B=x.2.2.2
       .rw[ac_ ((p u B).mpr Y)] at W
        cases W;exact(old _ _ h1).elim
       .rw[ac9 λz=>Y ((p u B).mp z)] at W
        exact inj _ _ _ _ _ h1 W
   .rintro v O ⟨l,I,rfl,b1,b0,b9,b5,j,a9,a8⟩
    obtain⟨z0,PL,D,a3⟩:∃z0:True,rC O l (cQ (r.take i) x.2.2.1 x.2.2.2)/\H l=none/\l≠f:=by
     rcases a9 x.2.2.1 x.2.2.2 with z|⟨M,C,X,N,G⟩
     .rw[z.1] at j;cases j
     .rw[C] at j
      cases j;exact⟨trivial,X,N,G⟩
    obtain⟨J,U,a7⟩:=id PL;refine⟨.inl ⟨Z,_,bG.of U⟩,_,Z,_,Z,_,_,Z,cD.of (b0 _ _ a5),aby _ rfl,λp2 b6=>?_⟩;have c1:lY (nV x) none (some 2)=[.int x.1,.int x.2.1]:=ae1 ..;rw[c1];have T:=aH (o:=HO.tup [V.int x.1,V.int x.2.1]) b6
    have wl:J.length<=r.length:=by
     rw[a7.length,aae];unfold cQ;rw[aae];have a1:=List.length_filter_le (λy:Nt=>decide (y.2.2.1=x.2.2.1)&&decide (y.2.2.2=x.2.2.2)) (r.take i);have a2:(r.take i).length<=r.length:=by rw[acX];lia
     lia
    refine⟨l,J,_,Z,Z,T _ _ U,by rw[sizeLine_eq];lia,?_⟩;have kL:Kp l (upd O p2 (.tup [V.int x.1,V.int x.2.1])) (upd (upd O p2 (.tup [V.int x.1,V.int x.2.1])) l (.lst (J++[V.ref p2]))):=Kp.set;have tL:=kL.tups (T _ _ U);refine⟨_,I,Z,λb o eb=>kL _ _ (T _ _ (b1 _ _ eb)) (aA eb D),kL _ _ (T _ _ b9) a3.symm,b5,λo m=>?_,a8⟩;rw[tk,Dd]
    by_cases q:x.2.2.1=o/\x.2.2.2=m
    .obtain⟨rfl,rfl⟩:=q
     rw[ac_ ⟨Z,Z⟩];refine .inr ⟨l,j,⟨_,ak,?_⟩,D,a3⟩;rw[ab1];exact aR.append (aR.keep (λa xs h=>tL _ _ (T.tups _ _ h)) _ (cH _ qU _) a7) (aaA (Pa (x:=ft x) (tL _ _ ak)))
    .rw[ac9 q,List.append_nil]
     rcases a9 o m with z|⟨M,C,X,N,G⟩
     .exact .inl z
     .have b4:M≠l:=λz=>by
       subst z;obtain⟨e1,e2⟩:=a8 _ _ _ _ _ C j;exact q ⟨e1.symm,e2.symm⟩
      obtain⟨us,g1,g2⟩:=X;exact .inr ⟨M,C,⟨us,kL _ _ (T _ _ g1) b4,aR.keep (λa xs h=>tL _ _ (T.tups _ _ h)) _ (cH _ qU _) g2⟩,N,G⟩
  .rintro σ H2 ⟨x0,d,rfl,L,hF,kl,g,inj⟩
   rw[b3,acS] at g;refine⟨_,Z,k f H2 hf ⟨d,aal hf hF,λo m=>?_⟩ L⟩;rcases g o m with z|⟨l,C,⟨J,g1,g2⟩,D,_⟩
   .exact .inl z
   .exact .inr ⟨l,C,J,aal D g1,aR.keep (λa xs e=>abP e) _ (cH _ qU _) g2⟩
inductive Af(K:zzy)(vs:List V)(H:Hp)(Q:VK)(dX:XK):Prop|m:∀(t:Addr)(x:Nt),vs=[.ref t]->H t=some (.tup (nV x))->(∀H',Same H H'->Q (.bl (!decide (x.1=x.2.2.1))) H')->Af K vs H Q dX
theorem K_(F:fZ K "is_note" "is_note" xG f fd)(n:FnAt P w K mg base 1 "is_whole" ["value"] (XH K))(d:nR mg):bR P w K mg base iB 2 f fd ["value"] (Af K):=by
 refine F.ok KD (λm H Q E h=>?_) (λy A g s H m Q E j h=>?_)
 .obtain⟨t,x,rfl,_⟩:=h
  rfl
 .obtain⟨t,x,rfl,a,k⟩:=h
  have B:=j.units
  refine⟨_,(aB (cj (PW.pt (pN (fP (dH (aV (cR (K:=K) (cv:= .ty "tuple") (c:= .type "tuple") rfl rfl) (by rfl) d.bQ bM (aj (pv 0) (aj (fM (v:= .ty "tuple") (by rfl) d.zF v8 rfl) au))))) (nJ (bD pP (aV (aW (K:=K) rfl) (by rfl) d.dJ cG (aj (pv 0) au)) aG (bA _))))) (aJ (bw mR)) bJ)
   (aJ (bw (j9 (aV (iM (K:=K) rfl rfl) (by rfl) d.Pr Hu (aj (dZ rfl (N:=["number"]) (own:=["number"]) (caps:=[]) (bB.of (by kernel_rfl)) (Yp (K:=K) rfl (pv 0)) (λ_ _ _ _=>(bK (i:=0) (show List.Nodup (["number"]:List Str) by decide +kernel) rfl (Or.inl rfl))) (λ_ _ _ _=>dF) (λ_ _ _ _=>(bN n (j.mono (by decide)) (by rfl) (aj (pv 0) au)))) au)) (jA (cZ pP (aO (aX (K:=K) rfl) (pv 0) aG (λ_ _=>rfl)) (aO (aX (K:=K) rfl) (pv 0) aG (λ_ _=>rfl)) (bA _))))))),?_⟩
  refine⟨_,Z,_,_,true,Z,.tup a,iK K,true,Z,?_⟩;refine cX ?_;refine⟨_,Z,t,_,Z,.inr (cD.of a),Z,_,Z,?_⟩;refine vK (by rfl) ?_;refine⟨_,Z,t,Z,⟨_,cD.of a⟩,λD r=>?_⟩;refine Rk (K:=K) (λi=>some (.bl true)) r a (by show 4<=100000;decide) (λi v H2 G F p b C o=>?_) (λH2 b u=>?_)
  .obtain⟨z,rfl⟩:∃z,v=V.int z:=by
    have l:=aaK p;simp only[nV,List.mem_cons,List.not_mem_nil,or_false] at l;rcases l with rfl|rfl|rfl|rfl<;>exact⟨_,rfl⟩
   exact⟨_,Z,z,Z,o _ H2 (Same.refl _) rfl⟩
  .refine⟨D,[true,true,true,true],Z,bG.of u,true,Z,?_⟩
   refine fH ?_;refine⟨_,Z,_,_,_,_,Z,Z,cD.of (b _ _ a),Z,_,Z,_,_,_,_,Z,Z,cD.of (b _ _ a),Z,Z,?_⟩
   have e:(!decide (V.int x.1=V.int x.2.2.1))=(!decide (x.1=x.2.2.1)):=by
    by_cases q:x.1=x.2.2.1
    .simp[q]
    .simp[q]
   show Q (.bl (!decide (V.int x.1=V.int x.2.2.1))) H2;rw[e];exact k H2 b
inductive wW(K:zzy)(vs:List V)(H:Hp)(Q:VK)(dX:XK):Prop|m:∀(c t:Addr)(cs:List Int)(x:Nt),vs=[.ref c,.ref t]->H c=some (.lst (cs.map V.int))->H t=some (.tup (nV x))->WR cs x->ZX cs->(∀H',Same H H'->Q (.bl true) H')->wW K vs H Q dX
theorem CV(F:fZ K "is_between" "is_between" o7 f fd)(i:FnAt P w K mg base 2 "is_below" ["value","count"] (rT K))(D:FnAt P w K mg base 2 "is_note" ["value"] (Af K))(r:nR mg):bR P w K mg base iB 3 f fd ["counts","note"] (wW K):=by
 refine F.ok CQ (λu H Q E h=>?_) (λC A l s H u Q E e h=>?_)
 .obtain⟨c,t,b,x,rfl,_⟩:=h
  rfl
 .obtain⟨c,t,b,x,rfl,y,o,ok,g,k⟩:=h
  have G:=e.units;obtain⟨⟨q,p⟩,⟨v,J⟩,⟨o0,n⟩,⟨m0,I⟩,m⟩:=id ok
  refine⟨_,(aB (cj (PW.pt (pN (fP (dH (bN D (e.mono (by decide)) (by rfl) (aj (pv 1) au)))) (pN (fP (dH (bN i (e.mono (by decide)) (by rfl) (aj (aO (aX (K:=K) rfl) (pv 1) aG (λ_ _=>rfl)) (aj (aV (aW (K:=K) rfl) (by rfl) r.dJ cG (aj (pv 0) au)) au))))) (nJ (fP (dH (bN i (e.mono (by decide)) (by rfl) (aj (aO (aX (K:=K) rfl) (pv 1) aG (λ_ _=>rfl)) (aj (aV (aW (K:=K) rfl) (by rfl) r.dJ cG (aj (pv 0) au)) au))))))))) (aJ (bw mR)) bJ)
   (aJ (bw (j9 (bN i (e.mono (by decide)) (by rfl) (aj (aO (aX (K:=K) rfl) (pv 1) aG (λ_ _=>rfl)) (aj (aO (aL (K:=K) rfl) (pv 0) (aO (aX (K:=K) rfl) (pv 1) aG (λ_ _=>rfl)) (λ_ _=>rfl)) au))) (jA (bN i (e.mono (by decide)) (by rfl) (aj (aO (aX (K:=K) rfl) (pv 1) aG (λ_ _=>rfl)) (aj (aO (aL (K:=K) rfl) (pv 0) (aO (aX (K:=K) rfl) (pv 1) aG (λ_ _=>rfl)) (λ_ _=>rfl)) au)))))))),?_⟩
  refine⟨_,Z,t,x,Z,o,λH1 j=>⟨_,Z,?_⟩⟩;rw[show (!decide (x.1=x.2.2.1))=true by simp[m]];refine cX ?_;have d:=j _ _ y;have a:=j _ _ o;refine⟨_,Z,_,_,_,_,Z,Z,cD.of a,Z,_,Z,c,_,Z,.inl (bG.of d),_,_,Z,_,Z,?_⟩;rw[show decide (wC x.1 (b.map V.int).length)=true by rw[aae];simp[wC,q,p]];refine cX ?_;refine⟨_,Z,_,_,_,_,Z,Z,cD.of a,Z,_,Z,c,_,Z,.inl (bG.of d),_,_,Z,_,Z,?_⟩;rw[show decide (wC x.2.2.1 (b.map V.int).length)=true by rw[aae];simp[wC,o0,n]];refine cX ?_;have g1:=(g.gI x.1).1;have g2:=(g.gI x.2.2.1).1;have B:gI b x.1=((gI b x.1).toNat:Int):=by lia
  have z:gI b x.2.2.1=((gI b x.2.2.1).toNat:Int):=by lia
  refine⟨_,Z,_,_,_,_,Z,Z,cD.of a,Z,_,Z,_,Z,_,_,_,_,Z,Z,cD.of a,Z,_,_,_,_,Z,Z,bG.of d,gR q p,x.2.1,(gI b x.1).toNat,by rw[←B];rfl,_,Z,?_⟩;rw[aaO (show wC x.2.1 (gI b x.1).toNat from ⟨v,by lia⟩)];refine fH ?_;refine⟨_,Z,_,_,_,_,Z,Z,cD.of a,Z,_,Z,_,Z,_,_,_,_,Z,Z,cD.of a,Z,_,_,_,_,Z,Z,bG.of d,gR o0 n,x.2.2.2,(gI b x.2.2.1).toNat,by rw[←z];rfl,?_⟩;rw[aaO (show wC x.2.2.2 (gI b x.2.2.1).toNat from ⟨m0,by lia⟩)];exact k H1 j
inductive Aj(K:zzy)(vs:List V)(H:Hp)(Q:VK)(dX:XK):Prop|m:∀(t c a:Addr)(cs:List Int)(ns:List Nt),vs=[.ref t]->RecAt H t c a cs ns->Fb cs ns->(∀H',Same H H'->Q .non H')->Aj K vs H Q dX
theorem V9(n:Nat)(v:V):(List.range n).filterMap (λ_=>some v)=List.replicate n v:=by
 induction n with
 | zero=>rfl
 | succ n a=>rw[d8,a,List.replicate_succ'];rfl
theorem Br(F:fZ K "check_notes" "check_notes" m8 f fd)(L:FnAt P w K mg base 3 "is_between" ["counts","note"] (wW K))(O:nR mg):bR P w K mg base iB 4 f fd ["record"] (Aj K):=by
 refine F.ok Am (λb H Q E h=>?_) (λJ A e s H b Q E l h=>?_)
 .obtain⟨t,c,a,p,g,rfl,_⟩:=h
  rfl
 .obtain⟨t,c,a,p,g,rfl,⟨j,B,C⟩,ok,k⟩:=h
  have S:=l.units;obtain⟨b,m,o⟩:=id C;have R:b.length=g.length:=by rw[o.length,aae]
  have nl:=ok.2.1;refine⟨_,(aJ (cj (fP (dH (aV (iM (K:=K) rfl rfl) (by rfl) O.Pr Hu (aj (dZ rfl (N:=["note","record"]) (own:=["note"]) (caps:=[0]) (bB.of (by kernel_rfl)) (dg (K:=K) rfl (aO (aX (K:=K) rfl) (pv 0) aG (λ_ _=>rfl))) (λ_ _ _ _=>(bK (i:=0) (show List.Nodup (["note","record"]:List Str) by decide +kernel) rfl (Or.inl rfl))) (λ_ _ _ _=>dF) (λ_ _ _ _=>(bN L (l.mono (by decide)) (by rfl) (aj (aO (aX (K:=K) rfl) (pv 1) aG (λ_ _=>rfl)) (aj (pv 0) au))))) au)))) (aJ Uk) bJ)),?_⟩;refine⟨_,Z,_,_,_,_,Z,Z,cD.of j,Z,a,Z,⟨_,bG.of m⟩,λD I=>?_⟩;refine jV (K:=K) (λi=>some (.bl true)) I (bG.of m) (by lia) (λi v H2 G F z d T u=>?_) (λH2 d n=>?_)
  .obtain⟨x,q,ex,rfl,y⟩:=zy o z
   exact⟨_,Z,_,_,_,_,Z,Z,cD.of (d _ _ j),Z,_,Z,c,q,p,x,Z,d _ _ B,d _ _ y,ok.2.2 x (aaK ex),ok.1,λM r=>u _ M r rfl⟩
  .rw[V9] at n
   refine⟨D,List.replicate b.length true,Z,bG.of (by rw[n,List.map_replicate]),_,Z,?_⟩;rw[show (List.replicate b.length true).all id=true by simp];refine cX ?_;exact k H2 d
def MF(cs ds:List Int):Prop:=ds.length=cs.length /\ ∀i:Int,0<=i->i<cs.length->0<=gI ds i/\gI ds i<=gI cs i
inductive Tq(K:zzy)(vs:List V)(H:Hp)(Q:VK)(dX:XK):Prop|m:∀(d t:Addr)(ds:List Int)(h k:Int),vs=[.ref d,.ref t]->H d=some (.lst (ds.map V.int))->H t=some (.tup [.int h,.int k])->0<=h->h<ds.length->Q (.bl (decide (k<gI ds h))) H->Tq K vs H Q dX
theorem abJ(F:fZ K "has" "has" TF f fd):bR P w K mg base iB 1 f fd ["done","touch"] (Tq K):=by
 refine F.ok abb (λc H Q E h=>?_) (λl A a s H c Q E m h=>?_)
 .obtain⟨d,t,j,h,k,rfl,_⟩:=h
  rfl
 .obtain⟨d,t,j,h,k,rfl,e,b,i,g,q⟩:=h
  refine⟨_,(aJ (bw (cZ ou (aO (aX (K:=K) rfl) (pv 1) aG (λ_ _=>rfl)) (aO (aL (K:=K) rfl) (pv 0) (aO (aX (K:=K) rfl) (pv 1) aG (λ_ _=>rfl)) (λ_ _=>rfl)) (bA _)))),?_⟩;exact⟨_,Z,_,_,_,_,Z,Z,cD.of b,Z,_,Z,_,Z,_,_,_,_,Z,Z,cD.of b,Z,_,_,_,_,Z,Z,bG.of e,gR i g,_,_,Z,Z,q⟩
def nK(x:Nt):List Int:=[x.1,x.2.1,x.2.2.1,x.2.2.2]
theorem abV(x:Nt):(nK x).map V.int=nV x:=Z
theorem abW{x y:Nt}(h:nK x=nK y):x=y:=by
 obtain⟨a,b,c,d⟩:=x;obtain⟨i,g,f,e⟩:=y;simp only[nK,List.cons.injEq,and_true] at h;obtain⟨rfl,rfl,rfl,rfl⟩:=h;rfl
def Dh(ns:List Nt):Prop:=ns.Pairwise λx y=>Tim.jU (nK y) (nK x)=false
theorem xP:∀{a b:List Nt},a.Perm b->Dh a->Dh b->a=b
 | [],_,p,_,_=>p.nil_eq
 | x::r,b,p,f,d=>by
   cases b with
   | nil=>exact ac' p.length_eq (by simp)
   | cons y t=>
     have i:x∈y::t:=p.mem_iff.mp (.head _);have g:y∈x::r:=p.mem_iff.mpr (.head _)
     have e:x=y:=by
      rcases List.mem_cons.mp i with h|h
      .exact h
      .rcases List.mem_cons.mp g with c|c
       .exact c.symm
       .exact abW (Tim.Jr _ _ ((List.pairwise_cons.mp d).1 x h) ((List.pairwise_cons.mp f).1 y c))
     subst e;rw[xP (List.perm_cons _ |>.mp p) (List.pairwise_cons.mp f).2 (List.pairwise_cons.mp d).2]
def vInt:V->Int
 | .int n=>n
 | _=>0
def tupK(H:Hp)(v:V):List Int:=match v with
 | .ref t=>match H t with
   | some (.tup xs)=>xs.map vInt
   | _=>[]
 | _=>[]
def toN:List Int->Nt
 | [a,b,c,d]=>(a,b,c,d)
 | _=>(0,0,0,0)
theorem rN{t:Addr}{x:Nt}(h:H t=some (.tup (nV x))):tupK H (.ref t)=nK x:=by
 unfold tupK;dsimp only;rw[h];rfl
theorem SQ(x:Nt):toN (nK x)=x:=Z
theorem Ol{ns:List Nt}(d:aR H vs (ns.map nD))(a:v∈vs):∃t x,v=.ref t/\x∈ns/\H t=some (.tup (nV x)):=by
 obtain⟨i,c,e⟩:=ac2 a;obtain⟨x,t,ex,ev,b⟩:=zy d (i:=i) (v:=v) (by rw[aaj c,e]);exact⟨t,x,ev,aaK ex,b⟩
theorem Om{H:Hp}:∀{vs:List V}{ns:List Nt},aR H vs (ns.map nD)->vs.map (λv=>toN (tupK H v))=ns
 | [],[],_=>rfl
 | [],_::_,h=>by simp only[List.map_cons,aR] at h
 | _::_,[],h=>by simp only[List.map_nil,aR] at h
 | v::vs,n::ns,h=>by
   simp only[List.map_cons,aR] at h;obtain⟨t,rfl,a⟩:=Ca h.1;rw[List.map_cons,Om h.2,rN a,SQ]
theorem Vo{H:Hp}:∀{vs:List V},(∀v∈vs,∃t x,v=V.ref t/\H t=some (.tup (nV x)))->aR H vs ((vs.map λv=>toN (tupK H v)).map nD)
 | [],_=>by simp[aR]
 | v::vs,h=>by
   obtain⟨t,x,rfl,a⟩:=h v (.head _);simp only[List.map_cons,aR];exact⟨by rw[rN a,SQ];exact G7 a,Vo λv b=>h v (.tail _ b)⟩
theorem Iv{ns:List Nt}{Q:VK}(N:kI H p ns)(k:∀l c H',H l=none->kI H' l c->c.Perm ns->Dh c->Same H H'->Q (.ref l) H'):Gi K [.ref p] H Q:=by
 obtain⟨n,z,d⟩:=N;refine⟨p,n,4,tupK H,Z,bG.of z,by decide,λy g=>?_,λl zs m j q=>?_⟩
 .obtain⟨t,x,rfl,_,f⟩:=Ol d g
  exact⟨t,Z,by rw[rN f,abV];exact cD.of f,by rw[rN f];rfl⟩
 .have i:=aH (o:=HO.lst zs) m
  have all:∀v∈zs,∃t x,v=V.ref t/\H t=some (.tup (nV x)):=λv s=>by
   obtain⟨t,x,e,_,f⟩:=Ol d (j.mem_iff.mp s);exact⟨t,x,e,f⟩
  refine k l (zs.map λv=>toN (tupK H v)) _ m ⟨zs,ak,aR.keep i.tups _ (cH _ qW _) (Vo all)⟩ ?_ ?_ i
  .rw[←Om d]
   exact j.map _
  .unfold Dh
   rw[List.pairwise_map];refine List.Pairwise.imp_of_mem (fun {x y} r g h=>?_) q;obtain⟨t,a,rfl,f⟩:=all x r;obtain⟨u,b,rfl,w⟩:=all y g;rw[rN f,rN w] at h ⊢;exact h
def rpF(t f st pr:Addr):List (Str×V):=[("record",.ref t),("firsts",.ref f),("stage",.ref st),("progress",.ref pr)]
structure Fd where
 (o dx t c a f pr:Addr) (W:wg)
structure jJ(CR CW CH:Addr)(i ii:Nat)(τ:Tg)(H:Hp)(R:Fd)(S:eO)(cs:List Int)(ns:List Nt)(gs:List Int):Prop where
 w:mC CW CH i τ H R.W S
 o:H R.o=some (.ins CR R.dx (rpF R.t R.f R.W.o R.pr))
 to:τ R.o=[ii,7]
 pr:H R.pr=some (.lst (gs.map V.int))
 tp:τ R.pr=[ii,8]
 ne:ii≠i
 n0:ii≠0
 Ye:RecAt (pU τ H) R.t R.c R.a cs ns
 Zm:mz (pU τ H) R.f ns
 ok:Fb cs ns
 lc:cs.length=S.hs.length
 dn:MF cs gs
 gd:kJ S
 ml:S.m<=100
section
variable{CR:Addr}{ii:Nat}{R:Fd}{ns:List Nt}
theorem jJ.rcd(r:jJ CR CW CH i ii τ H R S cs ns gs):RecAt H R.t R.c R.a cs ns:=r.Ye.same (rO _ _)
theorem jJ.fst(r:jJ CR CW CH i ii τ H R S cs ns gs):mz H R.f ns:=r.Zm.same (rO _ _)
theorem jJ.mv(r:jJ CR CW CH i ii τ H R S cs ns gs)(q:Mv i τ H τ' H')(a:Mv ii τ H τ' H')(u:sU τ' H'):jJ CR CW CH i ii τ' H' R S cs ns gs:=by
 have c:=a.keep _ _ r.o (.inr (by rw[r.to];rfl));have b:=a.keep _ _ r.pr (.inr (by rw[r.tp];rfl));exact⟨r.w.mv q u,c.1,c.2.trans r.to,b.1,b.2.trans r.tp,r.ne,r.n0,r.Ye.same (oO q),r.Zm.same (oO q),r.ok,r.lc,r.dn,r.gd,r.ml⟩
theorem jJ.same(r:jJ CR CW CH i ii τ H R S cs ns gs)(k:Same H H'):jJ CR CW CH i ii τ H' R S cs ns gs:=r.mv (Mv.of_same k) (Mv.of_same k) (r.w.un.same k)
end
def iz(S:eO)(cs a:List Int)(k:Nat):Bool:=decide (gI a k=gI cs k) || !(kE S.hs k)
def iI(ns:List Nt)(a:List Int)(k:Nat):List Nt:=((cQ ns k (gI a k)).filter λq=> !decide (q.2<gI a q.1)).map λq=>(q.1,q.2,(k:Int),gI a k)
inductive rR(CR CW CH:Addr)(K:zzy)(vs:List V)(H:Hp)(Q:VK)(dX:XK):Prop|m:∀(i ii:Nat)(τ:Tg)(R:Fd)(S:eO)(cs gs:List Int)(ns:List Nt),vs=[.ref R.o]->jJ CR CW CH i ii τ H R S cs ns gs->(∀l H',H l=none->H' l=some (.lst (gs.map V.int))->Same H H'->Q (.ref l) H')->rR CR CW CH K vs H Q dX
theorem K9(F:fZ K "counts" "Replay.counts" j7 f fd)(c:cW K aC)(p:nR mg):bR P w K mg base iB 1 f fd ["self"] (rR aC ao aq K):=by
 refine F.ok xq (λe H Q E h=>?_) (λo A a s H e Q E q h=>?_)
 .obtain⟨i,j,d,R,S,n,m,g,rfl,_⟩:=h
  rfl
 .obtain⟨i,j,d,R,S,n,m,g,rfl,r,k⟩:=h
  refine⟨_,(aJ (bw (dB (cC (K:=K) rfl) (by rfl) p.iD fO (aj (aZ (K:=K) rfl (pv 0) rfl) au)))),?_⟩;exact⟨_,Z,R.o,aC,R.dx,_,_,Z,r.o,c.cls,c.dR,Z,R.pr,_,Z,.inl (bG.of r.pr),λl b=>k l _ b ak (aH b)⟩
inductive zj(CR CW CH:Addr)(K:zzy)(vs:List V)(H:Hp)(Q:VK)(dX:XK):Prop|m:∀(i ii:Nat)(τ:Tg)(R:Fd)(S:eO)(cs gs:List Int)(ns:List Nt),vs=[.ref R.o]->jJ CR CW CH i ii τ H R S cs ns gs->Q (.bl (decide (gs=cs))) H->zj CR CW CH K vs H Q dX
theorem Vb(F:fZ K "done" "Replay.done" nH f fd)(a:cW K aC)(p:nR mg):bR P w K mg base iB 1 f fd ["self"] (zj aC ao aq K):=by
 refine F.ok Av (λd H Q E h=>?_) (λo A b s H d Q E l h=>?_)
 .obtain⟨i,j,c,R,S,n,m,g,rfl,_⟩:=h
  rfl
 .obtain⟨i,j,c,R,S,n,m,g,rfl,r,k⟩:=h
  have e:=l.units;refine⟨_,(aJ (bw (cZ (vA (K:=K) rfl e) (aZ (K:=K) rfl (pv 0) rfl) (aO (aX (K:=K) rfl) (aZ (K:=K) rfl (pv 0) rfl) aG (λ_ _=>rfl)) (bA _)))),?_⟩;have rc:=r.rcd;refine⟨_,Z,R.o,aC,R.dx,_,_,Z,r.o,a.cls,a.dR,Z,_,Z,R.o,aC,R.dx,_,_,Z,r.o,a.cls,a.lQ,Z,_,_,_,_,Z,Z,cD.of rc.1,Z,_,_,dh r.pr,dh rc.2.1,shaped_ints _,shaped_ints _,?_⟩;rw[ac9 aaV,lX PyData.int vU];exact k
inductive uT(CR CW CH:Addr)(K:zzy)(vs:List V)(H:Hp)(Q:VK)(dX:XK):Prop|m:∀(i ii i':Nat)(τ:Tg)(R:Fd)(S:eO)(cs gs:List Int)(ns:List Nt),vs=[.ref R.o]->jJ CR CW CH i ii τ H R S cs ns gs->i'≠0->(∀(τ':Tg)(W':wg)(H':Hp),mC CW CH i' τ' H' W' S->(∀x u,H x=some u->τ' x=τ x)->Same H H'->Q (.ref W'.o) H')->uT CR CW CH K vs H Q dX
theorem Qx(F:fZ K "works" "Replay.works" lG f fd)(d:cW K aC)(t:dz K ao)(j:MethAt P w K mg base 9 ao "twin" ["self"] (wR ao aq K))(u:nR mg):bR P w K mg base iB 10 f fd ["self"] (uT aC ao aq K):=by
 refine F.ok yO (λe H Q E h=>?_) (λq A a s H e Q E n h=>?_)
 .obtain⟨i,l,c,b,R,S,p,o,g,rfl,_⟩:=h
  rfl
 .obtain⟨i,l,c,b,R,S,p,o,g,rfl,r,m,k⟩:=h
  refine⟨_,(aJ (bw (cu j t.cls (n.mono (by decide)) (aZ (K:=K) rfl (pv 0) rfl)))),?_⟩;exact⟨_,Z,R.o,aC,R.dx,_,_,Z,r.o,d.cls,d.vC,Z,R.W.o,R.W.dx,_,Z,r.w.o,Z,i,c,b,R.W,S,Z,r.w,r.gd,r.ml,m,k⟩
inductive qj(CR CW CH:Addr)(K:zzy)(vs:List V)(H:Hp)(Q:VK)(dX:XK):Prop|m:∀(i ii:Nat)(τ:Tg)(R:Fd)(S:eO)(cs gs:List Int)(ns:List Nt)(k:Nat),vs=[.ref R.o,.int k]->jJ CR CW CH i ii τ H R S cs ns gs->k<cs.length->Q (.bl (iz S cs gs k)) H->qj CR CW CH K vs H Q dX
theorem Qy(F:fZ K "is_over" "Replay.is_over" jx f fd)(a:cW K aC)(B:dz K ao)(o:MethAt P w K mg base 4 ao "how" ["self","hand"] (λvs H Q _=>Dy ao aq bI K vs H Q λ_ _ _=>False))(G:nR mg):bR P w K mg base iB 5 f fd ["self","hand"] (qj aC ao aq K):=by
 refine F.ok vd (λvs H Q E h=>?_) (λy A g s H vs Q E x h=>?_)
 .obtain⟨i,v,l,R,S,d,c,p,n,rfl,_⟩:=h
  rfl
 .obtain⟨i,v,l,R,S,d,c,p,n,rfl,r,nl,k⟩:=h
  refine⟨_,(aJ (bw (Uu (cZ eV (aO (aL (K:=K) rfl) (aZ (K:=K) rfl (pv 0) rfl) (pv 1) (λ_ _=>rfl)) (aO (aL (K:=K) rfl) (aO (aX (K:=K) rfl) (aZ (K:=K) rfl (pv 0) rfl) aG (λ_ _=>rfl)) (pv 1) (λ_ _=>rfl)) (bA _)) (jA (cZ pP (cL o B.cls (x.mono (by decide)) (aZ (K:=K) rfl (pv 0) rfl) (aj (pv 1) au)) bT (bA _)))))),?_⟩;have rc:=r.rcd;have C:=r.dn.1;refine⟨_,Z,R.o,aC,R.dx,_,_,Z,r.o,a.cls,a.dR,Z,_,Z,_,_,_,_,Z,Z,bG.of r.pr,gR (by lia) (by lia),_,Z,R.o,aC,R.dx,_,_,Z,r.o,a.cls,a.lQ,Z,_,_,_,_,Z,Z,cD.of rc.1,Z,_,Z,_,_,_,_,Z,Z,bG.of rc.2.1,gR (by lia) (by lia),Z,?_⟩;have t:n<S.hs.length:=by rw[←r.lc];exact nl
  have m:S.hs[n]?=some S.hs[n]:=by simp[t]
  by_cases e:gI c n=gI d n
  .rw[aaO (by rw[e])]
   refine⟨_,Z,fH ?_⟩;have:iz S d c n=true:=by unfold iz;rw[aaO e];rfl
   rw[←this];exact k
  .rw[aaQ (λz=>e (V.int.inj z))]
   refine⟨_,Z,cX ?_⟩;have j:wC (n:Int) S.hs.length:=⟨by lia,by lia⟩;refine⟨_,Z,R.o,aC,R.dx,_,_,Z,r.o,a.cls,a.vC,Z,R.W.o,R.W.dx,_,Z,r.w.o,Z,_,Z,i,l,R.W,S,_,Z,r.w,λu t3 D b=>?_,λz=>ac' j z⟩
   obtain rfl:t3=S.hs[n]:=by
    have:u=n:=by lia
    subst this;rw[m] at b;exact(abe b).symm
   refine⟨Z,?_⟩
   have:iz S d c n = !decide (V.str S.hs[n].st=V.str (Str.ofString "waits")):=by
    unfold iz kE;rw[aaQ e,m]
    by_cases q:S.hs[n].st=Str.ofString "waits"
    .simp only[q];rfl
    .have:¬V.str S.hs[n].st=V.str (Str.ofString "waits"):=λz=>q (V.str.inj z)
     show (false || !decide (S.hs[n].st=Str.ofString "waits"))=_;rw[aaQ q,aaQ this];rfl
   rw[this] at k;exact k
inductive Ag(CR CW CH:Addr)(K:zzy)(vs:List V)(H:Hp)(Q:VK)(dX:XK):Prop|m:∀(i ii:Nat)(τ:Tg)(R:Fd)(S:eO)(cs gs:List Int)(ns:List Nt)(k:Nat),vs=[.ref R.o,.int k]->jJ CR CW CH i ii τ H R S cs ns gs->k<cs.length->(∀l H',H l=none->kI H' l (iI ns gs k)->Same H H'->Q (.ref l) H')->Ag CR CW CH K vs H Q dX
theorem La(F:fZ K "holding" "Replay.holding" jy f fd)(g:cW K aC)(X:FnAt P w K mg base 1 "has" ["done","touch"] (Tq K))(Bt:nR mg):bR P w K mg base iB 2 f fd ["self","hand"] (Ag aC ao aq K):=by
 refine F.ok mJ (λI H Q E h=>?_) (λa2 A L s H I Q E hr h=>?_)
 .obtain⟨i,ii,τ,R,S,cs,a,b,n,rfl,_⟩:=h
  rfl
 .obtain⟨i,ii,τ,R,S,cs,a,b,n,rfl,r,nl,k⟩:=h
  have hu:=aat hr
  refine⟨_,(aB (bH (i:=2) mJ.nd rfl (Or.inr rfl) (dY (aj (pv 1) (aj (aO (aL (K:=K) rfl) (aZ (K:=K) rfl (pv 0) rfl) (pv 1) (λ_ _=>rfl)) au))))
   (aJ (bw (dZ rfl (N:=["first","touch","self"]) (own:=["first"]) (caps:=[2,0]) (bB.of (by kernel_rfl)) (dg (K:=K) rfl (Uz hu (aZ (K:=K) rfl (pv 0) rfl) (pv 2) (cJ au) ⟨Z,Z,Z,Z⟩)) (λ_ _ _ _=>(bK (i:=0) (show List.Nodup (["first","touch","self"]:List Str) by decide +kernel) rfl (Or.inl rfl))) (λ_ _ _ _=>(rZ (fP (dH (bN X (hr.mono (by decide)) (by rfl) (aj (aZ (K:=K) rfl (pv 2) rfl) (aj (pv 0) au))))))) (λ_ _ _ _=>(bY UL (pv 0) (pv 1))))))),?_⟩
  have lg:=r.dn.1;refine⟨_,Z,_,Z,R.o,aC,R.dx,_,_,Z,r.o,g.cls,g.dR,Z,_,Z,_,_,_,_,Z,Z,bG.of r.pr,gR (by lia) (by lia),(by show 2<=sizeLine;decide),λt ht=>?_⟩;have Y:=aH (o:=HO.tup [V.int n,V.int (gI a n)]) ht;have J:=r.same Y;obtain⟨M,hF,m⟩:=J.fst;refine⟨_,Z,R.o,aC,R.dx,_,_,Z,J.o,g.cls,g.Ji,Z,R.f,Z,.inr ⟨_,.inl hF⟩,_,Z,(by show 0<=sizeLine;decide),λC T=>?_⟩;have c:=aH (o:=HO.lst []) T;have d:=Y.trans c;refine⟨_,W4.t (k:=[Sum.inl (n:Int),Sum.inl (gI a n)]) (c _ _ hF) (c _ _ ak),?_⟩
  obtain⟨l,U,PL⟩:∃l,(gw M [Sum.inl (n:Int),Sum.inl (gI a n)]).getD (V.ref C)=.ref l/\rC (upd (upd H t (.tup [V.int n,V.int (gI a n)])) C (.lst [])) l (cQ b n (gI a n)):=by
   rcases m n (gI a n) with z|⟨l,e1,e2⟩
   .exact⟨C,by rw[z.1];rfl,by rw[z.2];exact⟨[],ak,by simp[aR]⟩⟩
   .exact⟨l,by rw[e1];rfl,e2.same c⟩
  rw[U];obtain⟨I,O,W⟩:=id PL;have vl:I.length=(cQ b n (gI a n)).length:=by rw[W.length,aae]
  have fl:(cQ b n (gI a n)).length<=b.length:=by unfold cQ;rw[aae];exact List.length_filter_le ..
  have a0:=r.ok.2.1;have y:(upd (upd H t (.tup [V.int n,V.int (gI a n)])) C (.lst [])) t=some (.tup [V.int n,V.int (gI a n)]):=c _ _ ak;have r2:=J.same c;generalize (upd (upd H t (.tup [V.int n,V.int (gI a n)])) C (.lst []))=H2 at d O W PL y r2 c ⊢;refine⟨l,Z,⟨_,bG.of O⟩,λD hD=>?_⟩;refine Rp (K:=K) (λi=>((cQ b n (gI a n))[i]?).bind λq=>if !decide (q.2<gI a q.1) then some (nD (q.1,q.2,(n:Int),gI a n)) else none) (λi dd e=>?_) hD (bG.of O) (by lia) (λi v H3 G F hi j kG kF=>?_) (λH3 ws j e3 d3=>?_)
  .cases ex:(cQ b n (gI a n))[i]? with
   | none=>rw[ex] at e;cases e
   | some x=>
     rw[ex,ac8] at e;split at e
     .cases e;rfl
     .cases e
  .obtain⟨q,u,eq,rfl,hq⟩:=Yn W hi
   obtain⟨x,xm,rfl⟩:∃x∈b,q=ft x:=by
    obtain⟨x,hx,e⟩:=acL.mp (aaK eq);exact⟨x,(acY.mp hx).1,e.symm⟩
   obtain⟨⟨h0,h1⟩,⟨k0,k1⟩,⟨o0,o1⟩,⟨m0,m1⟩,a1⟩:=r.ok.2.2 x xm;have r3:=r2.same j;have B:=j _ _ hq;simp only[eq,ac8] at kG kF;refine⟨_,Z,R.o,aC,R.dx,_,_,Z,r3.o,g.cls,g.dR,Z,_,Z,R.pr,u,a,_,_,Z,r3.pr,B,h0,by rw[lg];exact h1,_,Z,?_⟩
   by_cases w:(ft x).2<gI a (ft x).1
   .rw[aaO w]
    refine cX ?_;exact kG _ (Same.refl _) (by simp[w])
   .rw[aaQ w]
    refine fH ?_;refine⟨_,Z,_,Z,u,t,_,_,Z,Z,B,j _ _ y,by show 2+2<=sizeLine;decide,λp H4 hp s4=>?_⟩;exact kF _ (nD ((ft x).1,(ft x).2,(n:Int),gI a n)) _ s4 (by simp[w]) (G7 hp)
  .rw[vl,zE (λq:PK=> !decide (q.2<gI a q.1)) (λq:PK=>nD (q.1,q.2,(n:Int),gI a n))] at d3
   refine k D H3 (d.free hD) ⟨ws,e3,?_⟩ (d.trans j);unfold iI;rw[acV];exact d3
def vO(S:eO)(cs:List Int)(ns:List Nt)(a:List Int):List Nat:=(List.range cs.length).filter λk=> !iz S cs a k&&(iI ns a k).isEmpty
inductive zf(CR CW CH:Addr)(K:zzy)(vs:List V)(H:Hp)(Q:VK)(dX:XK):Prop|m:∀(i ii:Nat)(τ:Tg)(R:Fd)(S:eO)(cs gs:List Int)(ns:List Nt),vs=[.ref R.o]->jJ CR CW CH i ii τ H R S cs ns gs->(∀l H',H l=none->H' l=some (.lst ((vO S cs ns gs).map λk:Nat=>V.int k))->Same H H'->Q (.ref l) H')->zf CR CW CH K vs H Q dX
theorem U9(F:fZ K "free" "Replay.free" nG f fd)(g:cW K aC)(L:MethAt P w K mg base 5 aC "is_over" ["self","hand"] (qj aC ao aq K))(J:MethAt P w K mg base 2 aC "holding" ["self","hand"] (Ag aC ao aq K))(z:nR mg):bR P w K mg base iB 6 f fd ["self"] (zf aC ao aq K):=by
 refine F.ok Ar (λB H Q E h=>?_) (λU A o s H B Q E u h=>?_)
 .obtain⟨i,p,m,R,S,c,a,b,rfl,_⟩:=h
  rfl
 .obtain⟨i,p,m,R,S,c,a,b,rfl,r,k⟩:=h
  refine⟨_,(aJ (bw (dZ rfl (N:=["hand","self"]) (own:=["hand"]) (caps:=[0]) (bB.of (by kernel_rfl)) (cP (by rfl) z.dI (aj (aV (aW (K:=K) rfl) (by rfl) z.dJ cG (aj (aZ (K:=K) rfl (pv 0) rfl) au)) au)) (λ_ _ _ _=>(bK (i:=0) (show List.Nodup (["hand","self"]:List Str) by decide +kernel) rfl (Or.inl rfl))) (λ_ _ _ _=>(rZ (PW.pt (ud (fP (dH (cL L g.cls (u.mono (by decide)) (pv 1) (aj (pv 0) au)))) (rY (fP (DP (K:=K) rfl (cL J g.cls (u.mono (by decide)) (pv 1) (aj (pv 0) au))))))))) (λ_ _ _ _=>(pv 0))))),?_⟩;have C:=r.dn.1;have Y:=r.ok.1.1;refine⟨_,Z,R.o,aC,R.dx,_,_,Z,r.o,g.cls,g.dR,Z,R.pr,_,Z,.inl (bG.of r.pr),_,Z,by rw[aae];lia,by rw[aae];lia,λD x=>?_⟩;rw[aae,acd,C];refine oE (λj=>if !iz S c a j&&(iI b a j).isEmpty then some (.int (j:Nat)) else none) x (by lia) (λj H1 G F v n t I=>?_) (λH1 n y=>?_)
  .have e:=r.same n
   refine⟨_,Z,R.o,R.dx,_,Z,e.o,Z,_,Z,i,p,m,R,S,c,a,b,j,by rw[Int.zero_add];rfl,e,v,_,Z,?_⟩;cases eo:iz S c a j with
   | true=>
     refine cX ?_;exact t H1 (Same.refl _) (by rw[eo];rfl)
   | false=>
     refine fH ?_;refine⟨_,Z,R.o,R.dx,_,Z,e.o,Z,_,Z,i,p,m,R,S,c,a,b,j,by rw[Int.zero_add];rfl,e,v,λl H2 X W q=>?_⟩;obtain⟨d,M,T⟩:=W;have wl:d.length=(iI b a j).length:=by rw[T.length,aae]
     have O:d.isEmpty=(iI b a j).isEmpty:=by
      cases d<;>cases h:iI b a j<;>rw[h] at wl<;>first |rfl|(simp at wl)
     refine⟨!d.isEmpty,.inl ⟨d,bG.of M,Z⟩,?_⟩;rw[O];cases eh:(iI b a j).isEmpty with
     | true=>
       refine fH ?_;exact⟨_,Z,I _ H2 q (by rw[eo,eh,Int.zero_add];rfl)⟩
     | false=>
       refine cX ?_;exact t H2 q (by rw[eo,eh];rfl)
  .rw[LC (λj=> !iz S c a j&&(iI b a j).isEmpty) (λj:Nat=>V.int j)] at y
   exact k D H1 x y n
def Yd(cs a:List Int)(k:Nat):List PK:=(List.range (gI cs k-gI a k).toNat).map λj:Nat=>((k:Int),gI a k+(j:Int))
def qQ(cs a:List Int)(n:Nat):List PK:=(List.range n).flatMap (Yd cs a)
inductive FJ(CR CW CH:Addr)(K:zzy)(vs:List V)(H:Hp)(Q:VK)(dX:XK):Prop|m:∀(i ii:Nat)(τ:Tg)(R:Fd)(S:eO)(cs gs:List Int)(ns:List Nt),vs=[.ref R.o]->jJ CR CW CH i ii τ H R S cs ns gs->(∀l H',H l=none->rC H' l (qQ cs gs cs.length)->Same H H'->Q (.ref l) H')->FJ CR CW CH K vs H Q dX
theorem um(cs a:List Int)(n:Nat):qQ cs a (n+1)=qQ cs a n++Yd cs a n:=by
 unfold qQ;rw[List.range_succ,List.flatMap_append];simp
theorem YK(F:fZ K "left" "Replay.left" nA f fd)(W:cW K aC)(Bt:nR mg):bR P w K mg base iB 1 f fd ["self"] (FJ aC ao aq K):=by
 refine F.ok iY (λvs H Q E h=>?_) (λa3 A a0 s H vs Q E hr h=>?_)
 .obtain⟨i,ii,τ,R,S,b,d,ns,rfl,_⟩:=h
  rfl
 .obtain⟨i,ii,τ,R,S,b,d,ns,rfl,r,k⟩:=h
  refine⟨_,(aB (bH (i:=1) iY.nd rfl (Or.inl rfl) (cJ au))
   (aB (iQ PassesOwn.never rfl (Ur (K:=K) rfl (by rfl) Bt.J_ (aj (aO (aX (K:=K) rfl) (aZ (K:=K) rfl (pv 0) rfl) aG (λ_ _=>rfl)) au)) (Gm (K:=K) (n:=2) rfl rfl (oh (bK (i:=2) iY.nd rfl (Or.inr rfl)) (oh (bK (i:=3) iY.nd rfl (Or.inl rfl)) Gk)))
   (aJ (cN (xO (K:=K) rfl PySem.F.plainAttrs_list PySem.F.slot_list_extend PySem.F.type_list_extend QK (pv 1) (aj (dZ rfl (N:=["k","hand"]) (own:=["k"]) (caps:=[2]) (bB.of (by kernel_rfl)) (DQ (by rfl) Bt.dI (aj (aO (aL (K:=K) rfl) (aZ (K:=K) rfl (pv 0) rfl) (pv 2) (λ_ _=>rfl)) (aj (pv 3) au))) (λ_ _ _ _=>(bK (i:=0) (show List.Nodup (["k","hand"]:List Str) by decide +kernel) rfl (Or.inl rfl))) (λ_ _ _ _=>dF) (λ_ _ _ _=>(dY (aj (pv 1) (aj (pv 0) au))))) au)))))
   (aJ (bw (pv 1))))),?_⟩
  have lg:=r.dn.1;have c8:=r.ok.1.1;refine⟨(by show 0<=sizeLine;decide),λl hl=>?_⟩;have sl:=aH (o:=HO.lst []) hl;have r1:=r.same sl;have rc:=r1.rcd;refine⟨_,Z,R.o,aC,R.dx,_,_,Z,r1.o,W.cls,W.lQ,Z,_,_,_,_,Z,Z,cD.of rc.1,Z,R.c,_,Z,bG.of rc.2.1,?_⟩;refine V7 (K:=K) (xs:=b.map V.int) (λj u z=>∃(M L:Option V) (ps:List PK),u=[some (.ref R.o),some (.ref l),M,L]/\Same H z/\rC z l (qQ b d j)) ?_ ?_ ?_ ?_
  .exact⟨none,none,[],Z,sl,[],ak,by simp[qQ,aR]⟩
  .rintro j u z _ ⟨M,L,ps,rfl,C,_⟩
   exact bG.of ((r.same C).rcd.2.1)
  .rintro j x u z p I ⟨M,L,ps,rfl,C,X⟩ hp
   rw[aam] at I
   obtain⟨c,ec,rfl⟩:∃c,b[j]?=some c/\x=.int c:=by
    cases e:b[j]? with
    | none=>rw[e] at I;cases I
    | some c=>rw[e] at I;exact⟨c,Z,(abe I).symm⟩
   have jl:=(aak.mp ec).1;have gc:gI b j=c:=xW ec;subst gc;have gb:=r.dn.2 j (by lia) (by lia);have cb:=r.ok.1.gI j;have Y:=aH (o:=HO.tup [V.int (j:Int),V.int (gI b j)]) hp;have r2:=r.same (C.trans Y);obtain⟨O,y,dw⟩:=X.same Y;refine⟨p,_,Z,cD.of ak,Z,_,_,Z,_,_,Z,Z,?_⟩;dsimp only[bU];refine⟨_,Z,.inl ⟨Z,_,bG.of y⟩,_,Z,R.o,aC,R.dx,_,_,Z,r2.o,W.cls,W.dR,Z,_,Z,_,_,_,_,Z,Z,bG.of r2.pr,gR (by lia) (by lia),_,Z,_,_,Z,⟨by lia,by lia,by lia,by lia⟩,λD hD=>?_⟩
   have ll:O.length<=8*300:=by
    rw[dw.length,aae]
    have:∀n,n<=b.length->(qQ b d n).length<=n*300:=λn=>by
     induction n with
     | zero=>intro _;simp[qQ]
     | succ n ih=>
       intro h;have:=ih (by lia);have a4:=r.ok.1.gI n;have a2:=r.dn.2 n (by lia) (by lia);rw[um,abf];unfold Yd;rw[aae,List.length_range];lia
    have:=this j (by lia);lia
   have sD:=aH (o:=HO.lst []) hD;refine jD (lo:=gI d j) (n:=(gI b j-gI d j).toNat) (λm u Hd=>(∃v,u=[v,some (.int j)])/\Same (upd z p (.tup [V.int j,V.int (gI b j)])) Hd/\rC Hd D ((List.range m).map λx:Nat=>((j:Int),gI d j+(x:Int)))) ?_ ?_ ?_
   .exact⟨⟨none,Z⟩,sD,[],ak,by simp[aR]⟩
   .rintro m u Hd hm ⟨⟨v,rfl⟩,B,g,t,J⟩
    dsimp only[bU,yK];rw[ac_ rfl];refine⟨_,Z,_,Z,(by show 2<=sizeLine;decide),λq hq=>?_⟩;have T:=aH (o:=HO.tup [V.int j,V.int (gI d j+m)]) hq;have ul:g.length=m:=by rw[J.length];simp
    have U:Kp D (upd Hd q (.tup [V.int j,V.int (gI d j+m)])) (upd (upd Hd q (.tup [V.int j,V.int (gI d j+m)])) D (.lst (g++[V.ref q]))):=Kp.set;have G:=U.tups (T _ _ t);refine⟨g,T _ _ t,by rw[ul,sizeLine_eq];lia,⟨_,Z⟩,(B.trans T).newly hD,g++[V.ref q],ak,?_⟩;rw[List.range_succ,ab1,ab1];exact iW (aR.keep (λa xs h=>G _ _ (T.tups _ _ h)) _ (cH _ qU _) J) (Pa (x:=((j:Int),gI d j+(m:Int))) (G _ _ ak))
   .rintro u Hd ⟨⟨v,rfl⟩,B,g,t,J⟩
    have ul:g.length<=300:=by rw[J.length];simp;lia
    refine⟨l,D,O,g,Z,Z,B _ _ y,t,by rw[sizeLine_eq];lia,?_⟩;have a1:=B _ _ y;have U:Kp l Hd (upd Hd l (.lst (O++g))):=Kp.set;have G:=U.tups a1;refine⟨_,_,[],Z,λx o e=>U _ _ (B _ _ (Y _ _ (C _ _ e))) (aA e hl),O++g,ak,?_⟩;rw[um,ab1];exact aR.append (aR.keep (λa xs h=>G _ _ (B.tups _ _ h)) _ (cH _ qU _) dw) (aR.keep G _ (cH _ qU _) J)
  .rintro u z ⟨M,L,ps,rfl,C,X⟩
   rw[aae] at X;exact⟨_,Z,k l z hl X C⟩
inductive Fy(CR CW CH:Addr)(K:zzy)(vs:List V)(H:Hp)(Q:VK)(dX:XK):Prop|m:∀(i ii:Nat)(τ:Tg)(R:Fd)(S:eO)(cs gs:List Int)(ns:List Nt),vs=[.ref R.o]->jJ CR CW CH i ii τ H R S cs ns gs->(∀H',Same H H'->Q (.int (cs.sum-gs.sum)) H')->Fy CR CW CH K vs H Q dX
theorem QM(d:MF cs gs):((qQ cs gs cs.length).length:Int)=cs.sum-gs.sum:=by
 have take:∀(l:List Int)(n:Nat),n<l.length->(l.take (n+1)).sum=(l.take n).sum+gI l n:=λl n h=>by
  rw[xW (aaj h),acU,aaj h,List.sum_append];show _+([l[n]]:List Int).sum=_;rw[List.sum_cons,List.sum_nil,Int.add_zero]
 have:∀n,n<=cs.length->((qQ cs gs n).length:Int)=(cs.take n).sum-(gs.take n).sum:=λn=>by
  induction n with
  | zero=>intro _;simp[qQ]
  | succ n a=>
    intro h;have e:=a (by lia);have b:=d.2 n (by lia) (by lia);rw[um,abf,take cs n (by lia),take gs n (by rw[d.1];lia)];unfold Yd;rw[aae,List.length_range];lia
 have e:=this cs.length (aaw _);rw[acS] at e;rw[e,←d.1,acS]
theorem YF(F:fZ K "__len__" "Replay.__len__" jz f fd)(t:cW K aC)(v:MethAt P w K mg base 1 aC "left" ["self"] (FJ aC ao aq K))(x:nR mg):bR P w K mg base iB 2 f fd ["self"] (Fy aC ao aq K):=by
 refine F.ok vf (λj H Q E h=>?_) (λq A a s H j Q E n h=>?_)
 .obtain⟨i,d,b,R,S,g,e,c,rfl,_⟩:=h
  rfl
 .obtain⟨i,d,b,R,S,g,e,c,rfl,r,k⟩:=h
  refine⟨_,(aJ (bw (aV (aW (K:=K) rfl) (by rfl) x.dJ cG (aj (cu v t.cls (n.mono (by decide)) (pv 0)) au)))),?_⟩;refine⟨_,Z,R.o,R.dx,_,Z,r.o,Z,i,d,b,R,S,g,e,c,Z,r,λl H1 z u m=>?_⟩;obtain⟨y,o,p⟩:=u;refine⟨l,_,Z,.inl (bG.of o),?_⟩;rw[p.length,aae,QM r.dn];exact k H1 m
inductive zq(CE:Addr)(K:zzy)(vs:List V)(H:Hp)(Q:VK)(dX:XK):Prop|m:∀(e:Addr)(v:V),vs=[.ref e,v]->H e=some (Pz CE none e)->(∀d,H d=none->Q .non (upd (upd H d (.xd [("note",v)])) e (Pz CE (some d) e)))->zq CE K vs H Q dX
theorem Vf(F:fZ K "__init__" "Held.__init__" qF f fd)(b:Xf K mg bV "Held" "note"):bR P w K mg base iB 1 f fd ["self","note"] (zq bV K):=by
 refine F.ok FT (λc H Q E h=>?_) (λj A a s H c Q E l h=>?_)
 .obtain⟨e,v,rfl,_⟩:=h
  rfl
 .obtain⟨e,v,rfl,g,k⟩:=h
  refine⟨_,(aJ (Yk (K:=K) rfl (pv 0) (pv 1) rfl)),?_⟩;exact⟨_,Z,_,Z,e,bV,Z,g,b.sa,b.na,λd i=>k d i⟩
theorem Q6{e:Addr}{a b c:HO}(n:d≠e):upd (upd (upd H e a) d b) e c=upd (upd H d b) e c:=by
 funext x
 by_cases z:x=e
 .rw[z,ak,ak]
 .rw[aF z,aF z]
  by_cases y:x=d
  .rw[y,ak,ak]
  .rw[aF y,aF y,aF z]
def St2(i a:Nat)(τ:Tg)(H H':Hp):Prop:=∃H1,jH i τ H H1/\jH a τ H1 H'
def iy(a:List Int)(k:Nat):List Int:=a.set k (gI a k+1)
inductive uU(CR CW CH CN CO CE:Addr)(K:zzy)(vs:List V)(H:Hp)(Q:VK)(E:XK):Prop|m:∀(i ii:Nat)(τ:Tg)(R:Fd)(S:eO)(cs gs:List Int)(ns:List Nt)(h:Int),vs=[.ref R.o,.int h]->jJ CR CW CH i ii τ H R S cs ns gs->S.ts.length<=9000->(∀(k:Nat)(x:Nt)(p d:Addr)(H':Hp),h=k->k<cs.length->iz S cs gs k=false->(iI ns gs k)[0]?=some x->H d=none->H' d=some (.xd [("note",.ref p)])->Dat H' (.ref p) (nD x)->Same H H'->E (.ref CE) (some d) H')->(∀(k:Nat)(s:bO)(r:Rw)(t:Addr)(H':Hp),h=k->k<cs.length->iz S cs gs k=false->iI ns gs k=[]->S.hs[k]?=some s->s.st = "waits" -> s.rws[s.pos]?=some r->touch r=true->H t=none->H' t=some (.tup (z_ S.ns s.bs r))->jJ CR CW CH i ii τ H' R (cA S k) cs ns (iy gs k)->St2 i ii τ H H'->Q (.ref t) H')->(¬wC h cs.length->E (.ref CN) none H)->(∀k:Nat,h=k->k<cs.length->iz S cs gs k=true->E (.ref CO) none H)->uU CR CW CH CN CO CE K vs H Q E
theorem Qf(S:eO)(k:Nat):(cA S k).hs.length=S.hs.length:=by
 unfold cA;split
 .rfl
 .split
  .rfl
  .simp
theorem Xn(S:eO)(k:Nat):(cA S k).m=S.m:=by
 unfold cA;split
 .rfl
 .split<;>rfl
theorem U6(F:fZ K "turn" "Replay.turn" nu f fd)(gA:Xr K mg bI "NoHand")(kh:Xr K mg cY "Over")(D:cW K aC)(aN:dz K ao)(fK:FnAt P w K mg base 2 "is_below" ["value","count"] (rT K))(jK:MethAt P w K mg base 5 aC "is_over" ["self","hand"] (qj aC ao aq K))(jL:MethAt P w K mg base 2 aC "holding" ["self","hand"] (Ag aC ao aq K))(jh:mZ P w K mg base 7 ao "turn" ["self","hand"] (wU ao aq bI cY K))(a8:PB P w K mg base 1 bV "Held" ["self","note"] (zq bV K))(Bt:nR mg):bR P w K mg base (uG P w) 8 f fd ["self","hand"] (uU aC ao aq bI cY bV K):=by
 refine F.okX lC (λvs H Q E h=>?_) (λa9 A a2 s H vs Q E U h hR=>?_)
 .obtain⟨i,Y,C,R,S,cs,g,T,h,rfl,_⟩:=h
  rfl
 .obtain⟨i,Y,C,R,S,cs,g,T,h,rfl,r,tl,k0,k1,k2,k3⟩:=h
  refine⟨_,(aB (cj (fP (dH (bN fK (U.mono (by decide)) (by rfl) (aj (pv 1) (aj (aV (aW (K:=K) rfl) (by rfl) Bt.dJ cG (aj (aZ (K:=K) rfl (pv 0) rfl) au)) au))))) (aJ (lN PySem.F.excBase_ValueError gA.ex gA.bd (by rfl) rfl rfl hR (aj bT au))) bJ)
   (aB (cj (dH (cL jK D.cls (U.mono (by decide)) (pv 0) (aj (pv 1) au))) (aJ (lN PySem.F.excBase_ValueError kh.ex kh.bd (by rfl) rfl rfl hR (aj bT au))) bJ)
   (aB (bH (i:=2) lC.nd rfl (Or.inl rfl) (cL jL D.cls (U.mono (by decide)) (pv 0) (aj (pv 1) au)))
   (aB (cj (DP (K:=K) rfl (pv 2)) (aJ (Qp a8 rfl rfl hR (U.mono (by decide)) (by rfl) (aj (aO (aL (K:=K) rfl) (pv 2) aG (λ_ _=>rfl)) au))) bJ)
   (aB (bH (i:=3) lC.nd rfl (Or.inl rfl) (vq jh aN.cls rfl hR (U.mono (by decide)) (aZ (K:=K) rfl (pv 0) rfl) (aj (pv 1) au)))
   (aB (Ym (aZ (K:=K) rfl (pv 0) rfl) (pv 1) (K6 (K:=K) rfl) aG GD set_list)
   (aJ (bw (pv 3))))))))),?_⟩
  have lg:=r.dn.1;refine⟨_,Z,_,Z,R.o,aC,R.dx,_,_,Z,r.o,D.cls,D.dR,Z,R.pr,_,Z,.inl (bG.of r.pr),h,_,Z,_,Z,?_⟩;rw[aae,lg]
  by_cases W:wC h cs.length
  .rw[aaO W]
   refine cX ?_;obtain⟨n,rfl⟩:=ac3 W.1;have nl:n<cs.length:=by have:=W.2;lia
   refine⟨_,Z,R.o,R.dx,_,Z,r.o,Z,_,Z,i,Y,C,R,S,cs,g,T,n,Z,r,nl,_,Z,?_⟩;cases eo:iz S cs g n with
   | true=>
     refine fH ?_;exact⟨(by show 1<=sizeLine;decide),k3 n rfl nl eo⟩
   | false=>
     refine cX ?_;refine⟨_,Z,R.o,R.dx,_,Z,r.o,Z,_,Z,i,Y,C,R,S,cs,g,T,n,Z,r,nl,λl H1 fl N1 N=>?_⟩;obtain⟨L,hl,dw⟩:=N1;have wl:L.length=(iI T g n).length:=by rw[dw.length,aae]
     refine⟨_,Z, !L.isEmpty,.inl ⟨L,bG.of hl,Z⟩,?_⟩;cases he:iI T g n with
     | cons x0 xr=>
       rw[he] at dw wl
       obtain⟨v0,vr,rfl⟩:∃v0 vr,L=v0::vr:=by
        cases L with
        | nil=>simp at wl
        | cons a b=>exact⟨a,b,Z⟩
       refine fH ?_
       obtain⟨p0,rfl,a4⟩:∃p,v0=.ref p/\Dat H1 (.ref p) (nD x0):=by
        have d0:Dat H1 v0 (nD x0):=dw.1;obtain⟨p,xs,e,q⟩:=id d0;subst e;exact⟨p,Z,d0⟩
       refine⟨_,Z,l,_,_,_,Z,Z,bG.of hl,bL (j:=0) rfl,(by show 1<=sizeLine;decide),λe a5=>⟨e,.ref p0,Z,ak,λd B=>⟨Z,d,_,Q6 ?_,?_,?_⟩⟩⟩
       .intro z
        rw[z,ak] at B;cases B
       .have nd:e≠d:=λz=>by rw[←z,ak] at B;cases B
        rw[aF nd];exact a5
       .have nd:d≠e:=λz=>by rw[z,ak] at B;cases B
        rw[aF nd] at B;have sd:=aH (o:=HO.xd [("note",V.ref p0)]) B;exact k0 n x0 p0 d _ rfl nl eo (by rw[he];rfl) (N.free B) ak (a4.same sd _) (N.trans sd)
     | nil=>
     rw[he] at wl;have we:L=[]:=List.eq_nil_of_length_eq_zero wl;rw[we];refine cX ?_;have u:=r.same N;have nS:n<S.hs.length:=by rw[←r.lc];exact nl
     have es:S.hs[n]?=some S.hs[n]:=by simp[nS]
     have wt:S.hs[n].st = "waits" :=by
      unfold iz kE at eo;rw[es,Bool.or_eq_false_iff] at eo;have:=eo.2;simpa using this
     have a3:wC (n:Int) S.hs.length:=⟨by lia,by lia⟩
     have one:∀(c:Nat)(t:bO),(n:Int)=c->S.hs[c]?=some t->t=S.hs[n]/\c=n:=λc t e1 J=>by
      have:c=n:=by lia
      subst this;rw[es] at J;exact⟨(abe J).symm,Z⟩
     refine⟨_,Z,R.o,aC,R.dx,_,_,Z,u.o,D.cls,D.vC,Z,R.W.o,R.W.dx,_,Z,u.w.o,Z,_,Z,i,C,R.W,S,_,Z,u.w,by lia,λc X r' tt H2 e1 J a0 a6 a1 tf tk w2 G=>?_,λz=>ac' a3 z,λc X e1 J z=>ac' (by rw[(one c X e1 J).1];exact wt) z⟩;obtain⟨e3,e4⟩:=one c X e1 J;subst e4;have gb:=r.dn.2 c (by lia) (by lia);have e5:=u.n0;have y:=G.keep _ _ u.pr (by rw[u.tp];intro z;exact u.ne (abe z));have I:=G.keep _ _ u.o (by rw[u.to];intro z;exact u.ne (abe z));refine⟨_,Z,R.o,aC,R.dx,_,_,Z,I,D.cls,D.dR,Z,_,Z,R.pr,_,_,_,Z,Z,bG.of y,by lia,(by rw[acd,aam,aaj (by lia)];rfl),_,_,Z,Z,R.pr,_,_,_,Z,Z,y,zB (by lia) (by rw[aae];lia),?_⟩;have gl:c<g.length:=by lia
     have gg:gI g c=g[c]:=xW (aaj gl)
     have em:(g.map V.int).set ((c:Int)).toNat (.int (g[c]+1))=(iy g c).map V.int:=by
      unfold iy;rw[gg,List.map_set,acd]
     rw[em];have m:jH Y C H2 (upd H2 R.pr (.lst ((iy g c).map V.int))):=jH.set (by rw[u.tp];rfl) y (by intro xs z;cases z);have M:jH i C H H2:=(jH.of_same N).trans G
     have ne1:gI g c≠gI cs c:=by
      unfold iz at eo;rw[Bool.or_eq_false_iff] at eo;exact of_decide_eq_false eo.1
     have ft:H tt=none:=N.free tf
     have a7:MF cs (iy g c):=by
      refine⟨by unfold iy;rw[acW];exact lg,λx x0 x1=>?_⟩;have:=r.dn.2 x x0 x1;have e:=acn (cs:=g) (h:=(c:Int)) (k:=x) (v:=gI g c+1) (by lia) (by lia) x0;rw[acd] at e;unfold iy;rw[e];split
      .rename_i z
       subst z;lia
      .exact this
     refine⟨_,Z,k1 c X r' tt _ rfl nl eo he J a0 a6 a1 ft ?_ ?_ ⟨H2,M,m⟩⟩
     .exact m.tup _ _ tk
     .have O:Same (pU C H) (pU C (upd H2 R.pr (.lst ((iy g c).map V.int)))):=(gO M r.w.i0).trans (gO m r.n0)
      refine⟨w2.mv (Mv.cU m r.ne r.n0) (m.un w2.un),?_,r.to,ak,r.tp,r.ne,r.n0,r.Ye.same O,r.Zm.same O,r.ok,by rw[Qf];exact r.lc,a7,r.gd.turn c,by rw[Xn];exact r.ml⟩;rw[aF (dD I y (by intro z;cases z))];exact I
  .rw[aaQ W]
   refine fH ?_;exact⟨(by show 1<=sizeLine;decide),k2 W⟩
inductive uV(CR CW CH CN:Addr)(K:zzy)(vs:List V)(H:Hp)(Q:VK)(E:XK):Prop|m:∀(i i' ii:Nat)(τ:Tg)(o dx t c a:Addr)(W:wg)(S:eO)(cs:List Int)(ns:List Nt),vs=[.ref o,.ref W.o,.ref t]->H o=some (.ins CR dx [])->τ o=[]->mC CW CH i τ H W S->kJ S->S.m<=100->RecAt H t c a cs ns->Fb cs ns->i'≠0->ii≠0->ii≠i'->ii≠i->(cs.length=S.hs.length -> ∀(τ':Tg)(R:Fd)(ns':List Nt)(H':Hp),R.o=o->ns'.Perm ns->Dh ns'->jJ CR CW CH i' ii τ' H' R S cs ns' (List.replicate cs.length 0)->(∀x u,H x=some u->x≠o->τ' x=τ x)->Kp o H H'->Q .non H')->(cs.length≠S.hs.length -> ∀H',Same H H'->E (.ref CN) none H')->uV CR CW CH CN K vs H Q E
theorem U8(F:fZ K "__init__" "Replay.__init__" nF f fd)(gA:Xr K mg bI "NoHand")(M:cW K aC)(aN:dz K ao)(Dn:FnAt P w K mg base 4 "check_notes" ["record"] (Aj K))(eY:MethAt P w K mg base 1 ao "counts" ["self"] (lB ao aq K))(Kg:FnAt P w K mg base 1 "firsts_of" ["record"] (Ai K))(jg:MethAt P w K mg base 9 ao "twin" ["self"] (wR ao aq K))(Bt:nR mg):bR P w K mg base (uG P w) 10 f fd ["self","works","record"] (uV aC ao aq bI K):=by
 refine F.okX Aq (λvs H Q E h=>?_) (λe0 A d3 s H vs Q E hr h hR=>?_)
 .obtain⟨i,i',g,B,o,b,t,c,a,W,S,L,ns,rfl,_⟩:=h
  rfl
 .obtain⟨i,i',g,B,o,b,t,c,a,W,S,L,ns,rfl,ho,to,w,gd,ml,R,ok,i0,O,b9,c9,k1,k2⟩:=h
  refine⟨_,(aB (cN (bN Dn (hr.mono (by decide)) (by rfl) (aj (pv 2) au)))
   (aB (cj (bD pP (aV (aW (K:=K) rfl) (by rfl) Bt.dJ cG (aj (aO (aX (K:=K) rfl) (pv 2) aG (λ_ _=>rfl)) au)) (aV (aW (K:=K) rfl) (by rfl) Bt.dJ cG (aj (cu eY aN.cls (hr.mono (by decide)) (pv 1)) au)) (bA _)) (aJ (lN PySem.F.excBase_ValueError gA.ex gA.bd (by rfl) rfl rfl hR (aj bT au))) bJ)
   (aB (cT (K:=K) rfl (pv 0) (dY (aj (dB (cC (K:=K) rfl) (by rfl) Bt.iD fO (aj (aO (aX (K:=K) rfl) (pv 2) aG (λ_ _=>rfl)) au)) (aj (aV (yF (K:=K) rfl) (by rfl) Bt.J8 Et (aj (aO (aX (K:=K) rfl) (pv 2) aG (λ_ _=>rfl)) au)) au))) rfl)
   (aB (cT (K:=K) rfl (pv 0) (bN Kg (hr.mono (by decide)) (by rfl) (aj (aZ (K:=K) rfl (pv 0) rfl) au)) rfl)
   (aB (cT (K:=K) rfl (pv 0) (cu jg aN.cls (hr.mono (by decide)) (pv 1)) rfl)
   (aJ (cT (K:=K) rfl (pv 0) (dZ rfl (N:=["count"]) (own:=["count"]) (caps:=[]) (bB.of (by kernel_rfl)) (dg (K:=K) rfl (aO (aX (K:=K) rfl) (aZ (K:=K) rfl (pv 0) rfl) aG (λ_ _=>rfl))) (λ_ _ _ _=>(bK (i:=0) (show List.Nodup (["count"]:List Str) by decide +kernel) rfl (Or.inl rfl))) (λ_ _ _ _=>dF) (λ_ _ _ _=>aG)) rfl))))))),?_⟩
  refine⟨_,Z,t,c,a,L,ns,Z,R,ok,λH1 s1=>?_⟩;have R1:=R.same s1;have w1:=w.same s1;refine⟨_,Z,_,_,_,_,Z,Z,cD.of R1.1,Z,c,_,Z,.inl (bG.of R1.2.1),_,Z,W.o,W.dx,_,Z,w1.o,Z,i,B,W,S,Z,w1,λl H2 fl el s2=>⟨l,_,Z,.inl (bG.of el),Z,_,Z,?_⟩⟩;have X:=s1.trans s2;have cl:(pY S).length=S.hs.length:=by unfold pY;simp
  rw[aae,aae,cl]
  by_cases hl:L.length=S.hs.length
  .refine cO (λq=>ac' q (by rw[hl,aaO rfl];decide)) (λ_=>?_)
   have c1:=X _ _ ho;have b2:=w.same X;have R2:=R.same X;have B2:Bs H B o (aQ B o [g,7]) H2:=⟨λx e=>by rw[aU (aA c1 e).symm];exact b2.un x e,Kp.of_same X,λx u e n=>aU n⟩
   have w2:mC ao aq i (aQ B o [g,7]) H2 W S:=b2.mv ⟨λx u e t=>⟨e,aU (λz=>by
    rw[z,to] at t;rcases t with t|t<;>cases t)⟩,λx xs e=>e⟩ B2.un
   have to2:aQ B o [g,7] o=[g,7]:=bF;generalize aQ B o [g,7]=b1 at B2 w2 to2;clear b2 R1 w1;refine⟨_,Z,_,_,_,_,Z,Z,cD.of R2.1,Z,c,_,Z,.inl (bG.of R2.2.1),λC a6=>?_⟩;have s3:=aH (o:=HO.lst (L.map V.int)) a6;have a8:(upd H2 C (.lst (L.map V.int))) C=some (.lst (L.map V.int)):=ak;have R3:=R2.same s3;have B3:=B2.claim (t:=[0]) s3 a6 ⟨_,a8⟩;have w3:=w2.mv (Mv.claim (p:=C) (t:=[0]) s3 a6) B3.un;have c0:=s3 _ _ c1;have to3:aQ b1 C [0] o=[g,7]:=by rw[aU (aA c1 a6)];exact to2
   have c5:aQ b1 C [0] C=[0]:=bF;generalize (upd H2 C (.lst (L.map V.int)))=H3 at s3 a8 R3 B3 w3 c0 ⊢;generalize aQ b1 C [0]=a0 at B3 w3 to3 c5;refine⟨_,Z,_,_,_,_,Z,Z,cD.of R3.1,Z,?_⟩;dsimp only[uM];refine Iv (K:=K) R3.2.2 λI J H4 a7 N4 pm Nv s4=>?_
   have d5:∃u,H4 I=some u:=by
    obtain⟨vs,e,_⟩:=N4;exact⟨_,e⟩
   have B4:=B3.claim (t:=[0]) s4 a7 d5;have w4:=w3.mv (Mv.claim (p:=I) (t:=[0]) s4 a7) B4.un;have d6:=s4 _ _ c0;have d7:=s4 _ _ a8;have b6:aQ a0 I [0] o=[g,7]:=by rw[aU (aA c0 a7)];exact to3
   have c4:aQ a0 I [0] C=[0]:=by rw[aU (aA a8 a7)];exact c5
   have c6:aQ a0 I [0] I=[0]:=bF;generalize aQ a0 I [0]=r at B4 w4 b6 c4 c6;refine⟨(by show 2<=sizeLine;decide),λd d4=>?_⟩;have s5:=aH (o:=HO.tup [V.ref C,V.ref I]) d4;have R5:RecAt (upd H4 d (.tup [V.ref C,V.ref I])) d C I L J:=⟨ak,s5 _ _ d7,N4.same s5⟩;have B5:=B4.same s5;have w5:=w4.same s5;have W8:=s5 _ _ d6;generalize (upd H4 d (.tup [V.ref C,V.ref I]))=H5 at s5 R5 B5 w5 W8 ⊢;have c8:Fb L J:=⟨ok.1,by rw[pm.length_eq];exact ok.2.1,λx hx=>ok.2.2 x (pm.mem_iff.mp hx)⟩;refine⟨_,Z,o,aC,b,_,Z,W8,M.cls,M.lQ,(by decide),?_⟩
   have Fp:∀(B:Tg)(H:Hp)(v:HO),sU B H->sU B (upd H o v):=λB H v u=>u.dom λy e=>by
    by_cases z:y=o
    .rw[z,ak] at e;cases e
    .rw[aF z] at e;exact e
   have a5:(upd H5 o (.ins aC b (cI "record" (.ref d) []))) o=some (.ins aC b [("record",.ref d)]):=ak;have b7:jH g r H5 (upd H5 o (.ins aC b (cI "record" (.ref d) []))):=jH.set (by rw[b6];rfl) W8 (by intro xs z;cases z);have B6:Bs H B o r (upd H5 o (.ins aC b (cI "record" (.ref d) []))):=B5.set (.inl rfl);have w6:=w5.mv (Mv.cU b7 c9 O) B6.un
   have r5:RecAt (pU r H5) d C I L J:=by
    obtain⟨vs,e1,e2⟩:=R5.2.2;exact⟨qg R5.1,uO c4 R5.2.1,vs,uO c6 e1,aR.keep (λa xs e=>qg e) _ (cH _ qW _) e2⟩
   have r6:=r5.same (gO b7 O);generalize (upd H5 o (.ins aC b (cI "record" (.ref d) [])))=H6 at a5 b7 B6 w6 r6 ⊢;refine⟨_,Z,o,aC,b,_,_,Z,a5,M.cls,M.lQ,Z,d,C,I,L,J,Z,r6.same (rO _ _),c8,λf T hf F7 s7=>?_⟩;have b3:=aaU s7 B6.un;have U:∀x u,H6 x=some u->RK r H6 T x=r x:=λx u e=>Xv e;have B7:Bs H B o (RK r H6 T) T:=⟨b3,B6.kp.trans (Kp.of_same s7),λx u e n=>(U x u (B6.kp _ _ e n)).trans (B6.tg x u e n)⟩;have w7:=w6.mv (Mv.tags s7 U) b3;have r7:=r6.same (oO (i:=0) (Mv.tags s7 U));have f7:mz (pU (RK r H6 T) T) f J:=F7.same abQ;have d2:=s7 _ _ a5;have b5:RK r H6 T o=[g,7]:=(U _ _ a5).trans b6;generalize RK r H6 T=b0 at b3 U B7 w7 r7 f7 b5;refine⟨_,Z,o,aC,b,_,Z,d2,M.cls,M.Ji,(by show 1<1000;decide),?_⟩;have Zh:(upd T o (.ins aC b (cI "firsts" (.ref f) [("record",.ref d)]))) o=some (.ins aC b [("record",.ref d),("firsts",.ref f)]):=ak;have a3:jH g b0 T (upd T o (.ins aC b (cI "firsts" (.ref f) [("record",.ref d)]))):=jH.set (by rw[b5];rfl) d2 (by intro xs z;cases z);have B8:Bs H B o b0 (upd T o (.ins aC b (cI "firsts" (.ref f) [("record",.ref d)]))):=B7.set (.inl rfl);have w8:=w7.mv (Mv.cU a3 c9 O) B8.un;have r8:=r7.same (gO a3 O);have f8:=f7.same (gO a3 O);generalize (upd T o (.ins aC b (cI "firsts" (.ref f) [("record",.ref d)])))=H8 at Zh a3 B8 w8 r8 f8 ⊢;refine⟨_,Z,W.o,W.dx,_,Z,w8.o,Z,i,i',b0,W,S,Z,w8,gd,ml,i0,λk W' H9 w9 a1 s9=>?_⟩;have B9:Bs H B o k H9:=⟨w9.un,B8.kp.trans (Kp.of_same s9),λx u e n=>(a1 x u (B8.kp _ _ e n)).trans (B8.tg x u e n)⟩;have r9:=r8.same (oO (i:=0) (Mv.tags s9 a1));have f9:=f8.same (oO (i:=0) (Mv.tags s9 a1));have d1:=s9 _ _ Zh;have c2:k o=[g,7]:=(a1 _ _ Zh).trans b5;refine⟨_,Z,o,aC,b,_,Z,d1,M.cls,M.vC,(by show 2<1000;decide),?_⟩;have Y:(upd H9 o (.ins aC b (cI "stage" (.ref W'.o) [("record",.ref d),("firsts",.ref f)]))) o=some (.ins aC b [("record",.ref d),("firsts",.ref f),("stage",.ref W'.o)]):=ak;have a2:jH g k H9 (upd H9 o (.ins aC b (cI "stage" (.ref W'.o) [("record",.ref d),("firsts",.ref f)]))):=jH.set (by rw[c2];rfl) d1 (by intro xs z;cases z);have Ba:Bs H B o k (upd H9 o (.ins aC b (cI "stage" (.ref W'.o) [("record",.ref d),("firsts",.ref f)]))):=B9.set (.inl rfl);have wa:=w9.mv (Mv.cU a2 b9 O) Ba.un;have ra:=r9.same (gO a2 O);have fa:=f9.same (gO a2 O);generalize (upd H9 o (.ins aC b (cI "stage" (.ref W'.o) [("record",.ref d),("firsts",.ref f)])))=Ha at Y a2 Ba wa ra fa ⊢;have b8:=ra.same (rO _ _);refine⟨_,Z,o,aC,b,_,_,Z,Y,M.cls,M.lQ,Z,_,_,_,_,Z,Z,cD.of b8.1,Z,C,Z,⟨_,bG.of b8.2.1⟩,λD hD=>?_⟩;refine jV (K:=K) (λ_=>some (.int 0)) hD (bG.of b8.2.1) (by rw[aae];have:=ok.1.1;lia) (λj v H3 G F hi s3 kG kF=>kF _ H3 (Same.refl _) rfl) (λHb sb eb=>?_);rw[G3,aae] at eb;have Bb:=Ba.claim (t:=[g,8]) sb hD ⟨_,eb⟩;have qb:∀m,Mv m k Ha (aQ k D [g,8]) Hb:=λm=>Mv.claim sb hD;have wb:=wa.mv (qb i') Bb.un;have rb:=ra.same (oO (qb 0));have fb:=fa.same (oO (qb 0));have d0:=sb _ _ Y;have b4:aQ k D [g,8] o=[g,7]:=by rw[aU (aA Y hD)];exact c2
   have c7:aQ k D [g,8] D=[g,8]:=bF;generalize aQ k D [g,8]=a9 at Bb qb wb rb fb b4 c7;refine⟨_,Z,o,aC,b,_,Z,d0,M.cls,M.dR,(by show 3<1000;decide),?_⟩;have Z6:jH g a9 Hb (upd Hb o (.ins aC b (cI "progress" (.ref D) [("record",.ref d),("firsts",.ref f),("stage",.ref W'.o)]))):=jH.set (by rw[b4];rfl) d0 (by intro xs z;cases z);have Bc:Bs H B o a9 (upd Hb o (.ins aC b (cI "progress" (.ref D) [("record",.ref d),("firsts",.ref f),("stage",.ref W'.o)]))):=Bb.set (.inl rfl);refine k1 hl a9 ⟨o,b,d,C,I,f,D,W'⟩ J _ rfl pm Nv ⟨wb.mv (Mv.cU Z6 b9 O) Bc.un,ak,b4,?_,c7,b9,O,rb.same (gO Z6 O),fb.same (gO Z6 O),c8,hl,?_,gd,ml⟩ Bc.tg Bc.kp
   .rw[aF (aA Y hD).symm]
    exact eb
   .refine⟨by simp,λx x0 x1=>?_⟩
    have e:gI (List.replicate L.length 0) x=0:=by
     unfold gI;rw[List.getElem?_replicate];split<;>rfl
    rw[e];exact⟨Int.le_refl _,(ok.1.gI x).1⟩
  .refine cO (λ_=>?_) (λq=>ac' ?_ q)
   .exact⟨(by show 1<=sizeLine;decide),k2 hl H2 X⟩
   .have:¬V.int (L.length:Int)=V.int (S.hs.length:Int):=λz=>hl (by have:=V.int.inj z;lia)
    rw[aaQ this];rfl
inductive za(CR CW CH:Addr)(K:zzy)(vs:List V)(H:Hp)(Q:VK)(dX:XK):Prop|m:∀(i ii i' Lx:Nat)(τ:Tg)(R:Fd)(S:eO)(cs gs:List Int)(ns:List Nt),vs=[.ref R.o]->jJ CR CW CH i ii τ H R S cs ns gs->Dh ns->i'≠0->Lx≠0->Lx≠i'->Lx≠i->(∀(τ':Tg)(R':Fd)(H':Hp),jJ CR CW CH i' Lx τ' H' R' S cs ns gs->(∀x u,H x=some u->τ' x=τ x)->Same H H'->Q (.ref R'.o) H')->za CR CW CH K vs H Q dX
theorem U5(F:fZ K "twin" "Replay.twin" ni f fd)(j:cW K aC)(Cv:pI P w K mg base 10 aC "Replay" ["self","works","record"] [] (λvs H Q _=>uV aC ao aq bI K vs H Q λ_ _ _=>False))(Bt:nR mg):bR P w K mg base iB 12 f fd ["self"] (za aC ao aq K):=by
 refine F.ok qu (λvs H Q E h=>?_) (λa1 A X s H vs Q E hr h=>?_)
 .obtain⟨i,ii,i',d,J,R,S,cs,n,ns,rfl,_⟩:=h
  rfl
 .obtain⟨i,ii,i',d,J,R,S,cs,n,ns,rfl,r,sr,i0,T,D,a0,k⟩:=h
  refine⟨_,(aB (bH (i:=1) qu.nd rfl (Or.inl rfl) (jT Cv (hr.mono (by decide)) (by rfl) (aj (aZ (K:=K) rfl (pv 0) rfl) (aj (aZ (K:=K) rfl (pv 0) rfl) au))))
   (aB (cT (K:=K) rfl (pv 1) (dB (cC (K:=K) rfl) (by rfl) Bt.iD fO (aj (aZ (K:=K) rfl (pv 0) rfl) au)) rfl)
   (aJ (bw (pv 1))))),?_⟩
  refine⟨_,Z,R.o,aC,R.dx,_,_,Z,r.o,j.cls,j.vC,Z,_,Z,R.o,aC,R.dx,_,_,Z,r.o,j.cls,j.lQ,Z,λo N q I C=>?_⟩;have G:(upd H N (.own o)) o=none:=by rw[aF C.symm];exact q
  have B:Same H (upd (upd H N (.own o)) o (.ins aC N [])):=(aH I).trans (aH G);refine⟨i,i',d,J,o,N,R.t,R.c,R.a,R.W,S,cs,ns,Z,ak,r.w.un _ q,r.w.same B,r.gd,r.ml,r.rcd.same B,r.ok,i0,T,D,a0,λhl b a Y H1 eo pm Nv L tg kp=>⟨Z,?_⟩,λbad=>ac' r.lc bad⟩;obtain rfl:=xP pm Nv sr;have S1:Same H H1:=λx u e=>kp _ _ (B _ _ e) (aA e q);have l:∀x u,H x=some u->b x=J x:=λx u e=>tg x u (B _ _ e) (aA e q);have fo:H a.o=none:=by rw[eo];exact q
  rw[←eo];clear kp tg B G eo hl pm Nv q I C;have W:jJ aC ao aq i ii b H1 R S cs Y n:=r.mv (Mv.tags S1 l) (Mv.tags S1 l) L.w.un;refine⟨_,Z,R.o,aC,R.dx,_,_,Z,W.o,j.cls,j.dR,Z,R.pr,_,Z,.inl (bG.of W.pr),λt M=>?_⟩;have U:=aH (o:=HO.lst (n.map V.int)) M;have g:=L.w.un.claim (t:=[d,8]) U (p:=t) ⟨_,ak⟩;have q2:∀m,Mv m b H1 (aQ b t [d,8]) (upd H1 t (.lst (n.map V.int))):=λm=>Mv.claim U M;have c:=L.mv (q2 i') (q2 d) g;have et:(upd H1 t (.lst (n.map V.int))) t=some (.lst (n.map V.int)):=ak;have tt:aQ b t [d,8] t=[d,8]:=bF;have y:∀x u,H x=some u->aQ b t [d,8] x=J x:=λx u e=>by rw[aU (aA (S1 _ _ e) M)];exact l x u e
  have S2:=S1.trans U;have nt:t≠a.o:=(aA L.o M).symm;clear q2 W;generalize upd H1 t (.lst (n.map V.int))=H2 at c et g S2 ⊢;generalize aQ b t [d,8]=v at c tt y g;refine⟨_,Z,a.o,aC,a.dx,_,Z,c.o,j.cls,j.dR,(by show 4<1000;decide),?_⟩;have O:jH d v H2 (upd H2 a.o (.ins aC a.dx (cI "progress" (.ref t) (rpF a.t a.f a.W.o a.pr)))):=jH.set (by rw[c.to];rfl) c.o (by intro xs z;cases z);refine⟨_,Z,k v ⟨a.o,a.dx,a.t,a.c,a.a,a.f,t,a.W⟩ _ ⟨c.w.mv (Mv.cU O D T) (O.un g),ak,c.to,by rw[aF nt];exact et,tt,c.ne,c.n0,c.Ye.same (gO O T),c.Zm.same (gO O T),c.ok,c.lc,r.dn,c.gd,c.ml⟩ y λx u e=>?_⟩;rw[aF (aA e fo)];exact S2 _ _ e
theorem G4{α:Type}{p:α->Bool}:∀{l:List α}{n:Nat}{x:α},(l.filter p)[n]?=some x -> ∃c,l[c]?=some x/\p x=true/\((l.take c).filter p).length=n
 | [],n,x,h=>by simp at h
 | y::l,n,x,h=>by
   rw[ac0] at h;cases e:p y with
   | false=>
     rw[e] at h;obtain⟨c,h1,b,a⟩:=G4 (l:=l) (by simpa using h);exact⟨c+1,by simpa using h1,b,by rw[List.take_succ_cons,ac0,e];simpa using a⟩
   | true=>
     rw[e,ac_ rfl] at h;cases n with
     | zero=>
       have:y=x:=by simpa using h
       subst this;exact⟨0,Z,e,by simp⟩
     | succ n=>
       obtain⟨c,h1,b,a⟩:=G4 (l:=l) (by simpa using h);exact⟨c+1,by simpa using h1,b,by rw[List.take_succ_cons,ac0,e];simpa using a⟩
def kc(m:List Tc)(k:Nat):Nat:=(m.filter λt=>t.k=k).length
def d_(m:List Tc)(n:Nat):List Int:=(List.range n).map λk=>(kc m k:Int)
theorem Gz(m:List Tc)(x:Tc)(k:Nat):kc (m++[x]) k=kc m k+(if x.k=k then 1 else 0):=by
 unfold kc;rw[ac7,abf]
 by_cases z:x.k=k<;>simp[z]
theorem Y5{a b:Nat}(h:a<=b):kc (l.take a) k<=kc (l.take b) k:=by
 have:l.take a=(l.take b).take a:=by rw[List.take_take,Nat.min_eq_left h]
 rw[this];exact((List.take_sublist a (l.take b)).filter _).length_le
theorem Jw{x:Tc}{a b:Nat}(h:a<b)(e:l[a]?=some x):kc (l.take a) x.k<kc (l.take b) x.k:=by
 have:kc (l.take (a+1)) x.k=kc (l.take a) x.k+1:=by
  rw[acU,e];show kc (l.take a++[x]) x.k=_;rw[Gz,ac_ rfl]
 have:=Y5 (l:=l) (k:=x.k) (show a+1<=b from h);lia
theorem VF{x:Tc}{a:Nat}(e:l[a]?=some x):kc (l.take a) x.k<kc l x.k:=by
 have:=Jw (aak.mp e).1 e;rwa [acS] at this
theorem BK(h:n<kc l k):∃c x,l[c]?=some x/\x.k=k/\kc (l.take c) k=n/\(l.filter λt=>t.k=k)[n]?=some x:=by
 obtain⟨x,a⟩:∃x,(l.filter λt=>t.k=k)[n]?=some x:=⟨_,aaj h⟩;obtain⟨c,e,d,b⟩:=G4 a;exact⟨c,x,e,aaT d,b,a⟩
theorem Y4{o:List Nat}(c:∀{b:Nat}{y:Tc},l[b]?=some y->(b∈o↔kc (l.take b) y.k<kc (pick l o) y.k)){a:Nat}{x:Tc}(e:l[a]?=some x)(n:a∉o)(q:∀m y,m<a->l[m]?=some y->y.k=x.k->m∈o):kc (l.take a) x.k=kc (pick l o) x.k:=by
 refine Nat.le_antisymm (Nat.le_of_not_lt λw=>?_) (Nat.le_of_not_lt λw=>n ((c e).mpr w));obtain⟨m,y,d,f,g,_⟩:=BK w;rw[List.getElem?_take] at d
 by_cases z:m<a
 .rw[ac_ z] at d
  rw[List.take_take,Nat.min_eq_left (ac6 z)] at g;have:=(c d).mp (q m y z d f);rw[f] at this;lia
 .rw[ac9 z] at d
  cases d
theorem Cu.cnt{o:List Nat}(h:Cu l o):∀{b:Nat}{y:Tc},l[b]?=some y->(b∈o↔kc (l.take b) y.k<kc (pick l o) y.k):=by
 induction h with
 | nil=>intro b y e;simp[pick,kc]
 | @snoc o a x h e n q d=>
   intro b y c;have g:pick l (o++[a])=pick l o++[x]:=by rw[iH,gZ e];rfl
   rw[g,Gz,acG,acQ,d c]
   by_cases z:x.k=y.k
   .have ca:=Y4 d e n λm y lt f k=>q m y lt f (.inl k)
    rw[ac_ z];rw[z] at ca;constructor
    .rintro(w|w)
     .lia
     .subst w;lia
    .intro w
     refine Classical.byContradiction λnn=>?_;have ne:b≠a:=λt=>nn (.inr t)
     have:kc (l.take b) y.k=kc (l.take a) y.k:=by
      have:¬kc (l.take b) y.k<kc (pick l o) y.k:=λt=>nn (.inl t);lia
     rcases Nat.lt_or_ge a b with w|w
     .have:=Jw w e;rw[z] at this;lia
     .have:=Jw (show b<a by lia) c;lia
   .rw[ac9 z]
    constructor
    .rintro(w|w)
     .lia
     .subst w;rw[e] at c;cases c;exact ac' rfl z
    .intro w;exact .inl (by lia)
theorem g_(m:List Tc)(n:Nat):(d_ m n).length=n:=by unfold d_;simp
theorem iU{m:List Tc}(h:k<n):gI (d_ m n) k=kc m k:=xW (by unfold d_;simp[h])
theorem BW{m:List Tc}{x:Tc}(h:x.k<n):d_ (m++[x]) n=iy (d_ m n) x.k:=by
 unfold iy;rw[iU h];refine List.ext_getElem? λk=>?_
 by_cases a:k<n
 .have c:(d_ (m++[x]) n)[k]?=some (kc (m++[x]) k:Int):=by unfold d_;simp[a]
  have b:(d_ m n)[k]?=some (kc m k:Int):=by unfold d_;simp[a]
  rw[c,Gz]
  by_cases z:x.k=k
  .subst z
   rw[ac_ rfl,List.getElem?_set_self (by rw[g_];exact h)];rfl
  .rw[ac9 z,List.getElem?_set_ne z,b]
   rfl
 .rw[List.getElem?_eq_none (by rw[g_];lia),List.getElem?_eq_none (by rw[acW,g_];lia)]
theorem sum_set:∀{l:List Int}{k:Nat}{v:Int},k<l.length->(l.set k v).sum=l.sum+v-gI l k
 | [],k,v,h=>by simp at h
 | x::l,0,v,h=>by simp[gI];lia
 | x::l,k+1,v,h=>by
   have:=sum_set (l:=l) (k:=k) (v:=v) (by simpa using h);have e:gI (x::l) ((k+1:Nat):Int)=gI l k:=by unfold gI;simp
   rw[e,List.set_cons_succ,List.sum_cons,List.sum_cons,this];lia
theorem N6:∀n:Nat,(List.replicate n (0:Int)).sum=0
 | 0=>rfl
 | n+1=>by rw[List.replicate_succ,List.sum_cons,N6 n];rfl
theorem GR(n:Nat):∀(s:Nat)(m:List Tc),m.length=s->(∀x∈m,x.k<n)->(d_ m n).sum=s
 | 0,m,hs,_=>by
   rw[List.eq_nil_of_length_eq_zero hs]
   have:d_ [] n=List.replicate n 0:=by
    refine List.ext_getElem? λk=>?_;unfold d_
    by_cases z:k<n<;>simp[z,kc]
   rw[this,N6];rfl
 | s+1,m,hs,h=>by
   rcases List.eq_nil_or_concat m with rfl|⟨b,x,rfl⟩
   .cases hs
   .have a:b.length=s:=by simpa using hs
    have c:=h x (by simp);rw[List.concat_eq_append,BW c];unfold iy;rw[sum_set (by rw[g_];exact c),GR n s b a λy d=>h y (by simp[d])];lia
theorem Cu.rest{o:List Nat}(h:Cu l o):(tM l o).length+o.length=l.length/\(pick l o).length=o.length:=by
 induction h with
 | nil=>exact⟨by unfold tM;rw[List.filter_eq_self.mpr λi _=>by simp];simp,Z⟩
 | @snoc o a x h e n q b=>
   obtain⟨pre,post,f,d,_⟩:=DK (aak.mp e).1 n;rw[f] at b;have c:pick l []=[]:=Z;rw[d,iH,gZ e,c];simp only[abf,ac1,List.length_nil] at b ⊢;lia
theorem Cu.whole{o:List Nat}(h:Cu l o)(b:o.length=l.length):∀i,i<l.length->i∈o:=λi a=>by
 have:tM l o=[]:=List.eq_nil_of_length_eq_zero (by have:=h.rest.1;lia);have:=List.filter_eq_nil_iff.mp this i (acZ.mpr a);simpa using this
theorem Cu.left{o:List Nat}(h:Cu l o)(s:o.length<l.length):∃a x,l[a]?=some x/\Cu l (o++[a])/\a∉o /\ ∀m,m<a->m∈o:=by
 have ex:∃a,a<l.length/\a∉o:=Classical.byContradiction λn=>by
  have:tM l o=[]:=List.filter_eq_nil_iff.mpr λi p=>by
   have:=Classical.byContradiction λz=>n ⟨i,acZ.mp p,z⟩;simp[this]
  have:=h.rest.1
  simp_all
 have least:∀n a,a<=n->a<l.length->a∉o -> ∃a,a<l.length/\a∉o /\ ∀m,m<a->m∈o:=λn=>by
  induction n with
  | zero=>intro a q f e;exact⟨a,f,e,λm b=>by lia⟩
  | succ n k=>
    intro a q f e
    by_cases z:∃m,m<a/\m∉o
    .obtain⟨m,r,j⟩:=z
     exact k m (by lia) (by lia) j
    .exact⟨a,f,e,λm b=>Classical.byContradiction λy=>z ⟨m,b,y⟩⟩
 obtain⟨a,d,c⟩:=ex;obtain⟨a,d,c,g⟩:=least a a (aaw _) d c;exact⟨a,_,aaj d,.snoc h (aaj d) c λm y b _ _=>g m b,c,g⟩
theorem VL(l:List Tc):yR (l.map gj)=l.map λt=>(t.k:Int):=by unfold yR gj;rw[acV];rfl
theorem Wv(l:List Tc)(k:Nat):(l.map λt=>(t.k:Int)).count (k:Int)=kc l k:=by
 unfold kc
 induction l with
 | nil=>rfl
 | cons x l a=>
   rw[List.map_cons,List.count_cons,a,ac0]
   by_cases z:x.k=k
   .subst z;simp
   .have:¬((x.k:Int)=(k:Int)):=λy=>z (by lia)
    simp[z,this]
theorem Oo{x y:Tc}(ex:l[i]?=some x)(a:l[j]?=some y):pQ (l.map gj) i j=((x.k:Int),(kc (l.take i) x.k:Int),(y.k:Int),(kc (l.take j) y.k:Int)):=by
 have g:∀{i:Nat}{x:Tc},l[i]?=some x->gI (yR (l.map gj)) i=x.k:=fun {i x} e=>xW (by rw[VL,aam,e];rfl)
 have c:∀{i:Nat}{x:Tc},l[i]?=some x->ctW (l.map gj) i=kc (l.take i) x.k:=fun {i x} e=>by
  unfold ctW;rw[g e,VL,←List.map_take,Wv]
 unfold pQ;rw[g ex,g a,c ex,c a]
theorem VR{ns:List Nt}:iI ns gs k=[] ↔ ∀x∈ns,x.2.2.1=(k:Int)->x.2.2.2=gI gs k->x.2.1<gI gs x.1:=by
 unfold iI;rw[List.map_eq_nil_iff,List.filter_eq_nil_iff];constructor
 .intro h x b f e
  have:ft x∈cQ ns k (gI gs k):=acL.mpr ⟨x,acY.mpr ⟨b,by simp[f,e]⟩,Z⟩;have:=h _ this;have:¬((!decide ((ft x).2<gI gs (ft x).1))=true):=this;rw[Bool.not_eq_true',decide_eq_false_iff_not,Decidable.not_not] at this;exact this
 .intro h q c
  obtain⟨x,b,rfl⟩:=acL.mp c;obtain⟨d,a⟩:=acY.mp b;have a:x.2.2.1=(k:Int)/\x.2.2.2=gI gs k:=by simpa using a
  have:=h x d a.1 a.2;rw[Bool.not_eq_true',decide_eq_false_iff_not,Decidable.not_not];exact this
def Fe(l:List Tc)(few:Bool)(ns:List Nt):Prop:=∀x,x∈ns ↔ ∃i j,j<l.length/\tH (l.map gj) few i j/\x=pQ (l.map gj) i j
theorem Nj(h:tH (l.map gj) few i j):i<j:=h.1
theorem Q9{o:List Nat}{ns:List Nt}{T:eO}(O:Cu l o)(h:∀x∈l,touch x.r=true)(i:∀x∈l,x.k<n)(N:Fe l few ns)(f:k<n)(le:kc (pick l o) k<=kc l k)(d:iz T (d_ l n) (d_ (pick l o) n) k=false)(he:iI ns (d_ (pick l o) n) k=[]):∃a x,l[a]?=some x/\x.k=k/\Cu l (o++[a])/\(l.filter λt=>t.k=k)[kc (pick l o) k]?=some x:=by
 have ne:kc (pick l o) k≠kc l k:=λz=>by
  unfold iz at d;rw[iU f,iU f,z] at d;simp at d
 obtain⟨a,x,c,rfl,ca,fa⟩:=BK (show kc (pick l o) k<kc l k by lia);have na:a∉o:=λz=>by have:=(O.cnt c).mp z;lia
 refine⟨a,x,c,Z,O.add h (few:=few) c na (λm y lt b e=>(O.cnt b).mpr ?_) (λm g=>?_),fa⟩
 .have:=Jw lt b
  rw[e] at this ⊢;lia
 .have lt:=Nj g
  have al:=(aak.mp c).1;obtain⟨y,b⟩:∃y,l[m]?=some y:=⟨_,aaj (by lia)⟩;have mem:=(N _).mpr ⟨m,a,al,g,Z⟩;rw[Oo b c] at mem;have:=VR.mp he _ mem rfl (by rw[iU f,ca]);dsimp only at this;rw[iU (i y (aaK b))] at this;exact(O.cnt b).mpr (by lia)
def j_(a:List Int)(k:Int)(x:Nt):Bool:=decide (x.2.2.1=k)&&(decide (x.2.2.2=gI a k)&&decide (gI a x.1<=x.2.1))
theorem BR(e:List Int)(k:Nat):∀ns:List Nt,iI ns e k=ns.filter (j_ e k)
 | []=>rfl
 | (a,b,c,d)::r=>by
   have f:=BR e k r;unfold iI cQ at f ⊢;rw[ac0,ac0];unfold j_ at f ⊢;dsimp only
   by_cases q1:c=(k:Int)
   .by_cases q2:d=gI e k
    .subst q1 q2
     rw[aaO rfl,aaO rfl];simp only[Bool.and_self,Bool.true_and,if_true,List.map_cons,ac0]
     by_cases q3:b<gI e a
     .rw[aaQ (show ¬gI e a<=b by lia)]
      rw[ac9 (show ¬(!decide ((ft (a,b,(k:Int),gI e k)).2<gI e (ft (a,b,(k:Int),gI e k)).1))=true by show ¬(!decide (b<gI e a))=true;rw[aaO q3];decide),ac9 aaV];exact f
     .rw[aaO (show gI e a<=b by lia)]
      rw[ac_ (show (!decide ((ft (a,b,(k:Int),gI e k)).2<gI e (ft (a,b,(k:Int),gI e k)).1))=true by show (!decide (b<gI e a))=true;rw[aaQ q3];rfl),ac_ rfl];exact congrArg ((a,b,(k:Int),gI e k) :: ·) f
    .rw[aaQ q2]
     simp only[Bool.and_false,Bool.false_and];exact f
   .rw[aaQ q1]
    simp only[Bool.false_and];exact f
theorem JC{ns a hs:List Nt}(pm:ns.Perm a)(b:Dh ns)(d:hs.Perm (a.filter (j_ gs k)))(c:Dh hs):hs=iI ns gs k:=by
 rw[BR];exact xP (d.trans (pm.filter _).symm) c (List.Pairwise.filter _ b)
inductive uW(K:zzy)(vs:List V)(H:Hp)(Q:VK)(dX:XK):Prop|m:∀(sm g:Addr)(ns:List Nt)(cs gs:List Int)(k:Nat),vs=[.ref sm,.ref g,.int k]->kI H sm ns->ns.length<=5000->(∀x∈ns,WR cs x)->H g=some (.lst (gs.map V.int))->gs.length=cs.length->k<cs.length->(∀l hs H',H l=none->kI H' l hs->hs.Perm (ns.filter (j_ gs k))->Dh hs->Same H H'->Q (.ref l) H')->uW K vs H Q dX
theorem Lb(F:fZ K "_law_held_by" "_law_held_by" t_ f fd)(Bt:nR mg):bR P w K mg base iB 1 f fd ["some","gone","hand"] (uW K):=by
 refine F.ok qy (λB H Q E h=>?_) (λa1 A I s H B Q E hr h=>?_)
 .obtain⟨C,g,c,cs,j,n,rfl,_⟩:=h
  rfl
 .obtain⟨C,g,c,cs,j,n,rfl,N,nl,J,hg,lg,nc,k⟩:=h
  refine⟨_,(aB (bH (i:=3) qy.nd rfl (Or.inl rfl) (cJ au))
   (aB (iQ PassesOwn.never rfl (dg (K:=K) rfl (pv 0)) (bK (i:=4) qy.nd rfl (Or.inl rfl))
   (aJ (cj (PW.pt (ud (bD eV (aO (aX (K:=K) rfl) (pv 4) aG (λ_ _=>rfl)) (pv 2) (bA _)) (ud (bD eV (aO (aX (K:=K) rfl) (pv 4) aG (λ_ _=>rfl)) (aO (aL (K:=K) rfl) (pv 1) (pv 2) (λ_ _=>rfl)) (bA _)) (rY (bD aag (aO (aL (K:=K) rfl) (pv 1) (aO (aX (K:=K) rfl) (pv 4) aG (λ_ _=>rfl)) (λ_ _=>rfl)) (aO (aX (K:=K) rfl) (pv 4) aG (λ_ _=>rfl)) (bA _)))))) (aJ (cN (dO (K:=K) rfl (pv 3) (aj (pv 4) au)))) bJ)))
   (aJ (bw (aV (yF (K:=K) rfl) (by rfl) Bt.J8 Et (aj (pv 3) au)))))),?_⟩
  obtain⟨B,R,T⟩:=id N;have W:B.length=c.length:=by rw[T.length,aae]
  refine⟨(by show 0<=sizeLine;decide),λa S=>?_⟩;have O:=aH (o:=HO.lst []) S;refine⟨_,Z,C,Z,⟨_,bG.of (O _ _ R)⟩,?_⟩
  refine vP (K:=K) (a:=C) (xs:=B) (λi u H2=>∃(x:Option V),u=[some (.ref C),some (.ref g),some (.int n),some (.ref a),x]/\Same H H2/\kI H2 a ((c.take i).filter (j_ j n)))
   ⟨none,Z,O,[],ak,by simp[aR]⟩ (λi u H2 _ ⟨_,_,b,_⟩=>bG.of (b _ _ R)) ?_ ?_
  .rintro i v u H2 hi ⟨x0,rfl,b,m,p,r⟩
   obtain⟨x,t,ex,rfl,hx⟩:=zy T hi;have d:=b _ _ hx;have q:=b _ _ hg;have M:c.take (i+1)=c.take i++[x]:=by rw[acU,ex];rfl
   obtain⟨⟨h0,h1⟩,⟨k0,k1⟩,⟨o0,o1⟩,⟨m0,m1⟩,a0⟩:=J x (aaK ex);have il:i<c.length:=(aak.mp ex).1
   have wl:m.length<=i:=by
    rw[r.length,aae];have:=List.length_filter_le (j_ j n) (c.take i);rw[acX] at this;lia
   have no:j_ j n x=false->(c.take (i+1)).filter (j_ j n)=(c.take i).filter (j_ j n):=λe=>by rw[M,ac7,ac0,e];simp
   have yes:j_ j n x=true->(c.take (i+1)).filter (j_ j n)=(c.take i).filter (j_ j n)++[x]:=λe=>by rw[M,ac7,ac0,e];simp
   dsimp only[bU];refine⟨_,Z,_,_,_,_,Z,Z,cD.of d,Z,_,Z,Z,_,Z,?_⟩
   by_cases q1:x.2.2.1=(n:Int)
   .rw[aaO (by rw[q1])]
    refine fH ?_;refine⟨_,Z,_,_,_,_,Z,Z,cD.of d,Z,_,Z,_,Z,_,_,_,_,Z,Z,bG.of q,gR (by lia) (by lia),Z,_,Z,?_⟩
    by_cases q2:x.2.2.2=gI j n
    .rw[aaO (by rw[q2])]
     refine fH ?_;refine⟨_,Z,_,Z,_,_,_,_,Z,Z,cD.of d,Z,_,_,_,_,Z,Z,bG.of q,gR (by lia) (by lia),_,Z,_,_,_,_,Z,Z,cD.of d,Z,_,_,Z,Z,_,Z,?_⟩;refine cO (λq3=>?_) (λq3=>?_)
     .refine⟨_,Z,.inl ⟨Z,_,bG.of p⟩,_,Z,a,m,_,Z,Z,p,(by rw[sizeLine_eq];lia),?_⟩
      have tup:∀y D,H2 y=some (.tup D)->(upd H2 a (.lst (m++[V.ref t]))) y=some (.tup D):=λy D e=>by rw[aF (dD e p (by intro z;cases z))];exact e
      refine⟨_,Z,λy o e=>by rw[aF (aA e S)];exact b _ _ e,_,ak,?_⟩;rw[yes (by unfold j_;rw[aaO q1,aaO q2];exact q3),ab1];exact aR.append (aR.keep tup _ (cH _ qW _) r) (aaA (G7 (tup _ _ d)))
     .refine⟨_,Z,b,m,p,?_⟩
      rw[no (by unfold j_;rw[aaO q1,aaO q2];exact Bool.eq_false_iff.mpr q3)];exact r
    .rw[aaQ (λz=>q2 (V.int.inj z))]
     refine cX ?_;refine⟨_,Z,b,m,p,?_⟩;rw[no (by unfold j_;rw[aaQ q2];simp)];exact r
   .rw[aaQ (λz=>q1 (V.int.inj z))]
    refine cX ?_;refine⟨_,Z,b,m,p,?_⟩;rw[no (by unfold j_;rw[aaQ q1];simp)];exact r
  .rintro u H2 ⟨x0,rfl,b,U⟩
   rw[W,acS] at U;refine⟨_,Z,?_⟩;dsimp only[uM];exact Iv (K:=K) U λl L H3 fl N3 Y G X=>k l L H3 (b.free fl) N3 Y G (b.trans X)
inductive yZ(CR CW CH CO CE:Addr)(K:zzy)(vs:List V)(H:Hp)(Q:VK)(dX:XK):Prop|m:∀(i ii:Nat)(τ:Tg)(R:Fd)(S:eO)(cs gs:List Int)(ns:List Nt)(k:Nat),vs=[.ref R.o,.int k]->jJ CR CW CH i ii τ H R S cs ns gs->S.ts.length<=9000->k<cs.length->((iz S cs gs k=true /\ ∀e H',H' e=some (XO CO none e)->Same H H'->Q (.ref e) H')\/(∃x,iz S cs gs k=false/\(iI ns gs k)[0]?=some x /\ ∀e d p H',H' e=some (XO CE (some d) e)->H' d=some (.xd [("note",.ref p)])->Dat H' (.ref p) (nD x)->Same H H'->Q (.ref e) H'))->yZ CR CW CH CO CE K vs H Q dX
theorem U_(F:fZ K "_law_refusal" "_law_refusal" tX f fd){J:Addr}(fQ:yG K cY J true)(fU:yG K bV J true)(V:mZ P w K mg base 8 aC "turn" ["self","hand"] (uU aC ao aq bI cY bV K))(N:Xo K mg bW J "NoteError" true)(aK:cW K aC)(Bt:nR mg):bR P w K mg base iB 9 f fd ["one","hand"] (yZ aC ao aq cY bV K):=by
 refine F.ok mK (λO H Q E h=>?_) (λa0 A B s H O Q E W h=>?_)
 .obtain⟨i,D,u,R,S,t,I,C,j,rfl,_⟩:=h
  rfl
 .obtain⟨i,D,u,R,S,t,I,C,j,rfl,r,M,kl,c⟩:=h
  refine⟨_,(aB (bH (i:=2) mK.nd rfl (Or.inl rfl) j8)
   (aB (abm (i:=3) rfl rfl rfl rfl mK.nd rfl rfl (by rfl) N.bd N.hd (λ_ _ _ _ hR=>(aJ (cN (vq V aK.cls rfl hR (W.mono (by decide)) (pv 0) (aj (pv 1) au))))) (λ_=>(aJ (bH (i:=2) mK.nd rfl (Or.inl rfl) (pv 3)))))
   (aJ (bw (pv 2))))),?_⟩
  have l:wC (j:Int) t.length:=⟨by lia,by lia⟩;have one:∀a:Nat,(j:Int)=a->a=j:=λa e=>by lia
  rcases c with ⟨n,k⟩|⟨x,n,ex,k⟩
  .refine⟨_,Z,R.o,R.dx,_,Z,r.o,Z,_,Z,i,D,u,R,S,t,I,C,j,Z,r,M,λa x p d L b m g=>ac' g (by rw[one a b,n];decide),λa y U T L b m g=>ac' g (by rw[one a b,n];decide),λz=>ac' l z,λa b m g=>⟨_,Z,fQ.sub,λe G=>?_⟩⟩
   exact⟨_,Z,_,Z,k e _ ak (aH G)⟩
  .refine⟨_,Z,R.o,R.dx,_,Z,r.o,Z,_,Z,i,D,u,R,S,t,I,C,j,Z,r,M,λa x' p d L b m g q X Y dp y=>⟨_,Z,fU.sub,λe G=>?_⟩,λa y U T L b m g q=>ac' ex (by rw[←one a b,q];simp),λz=>ac' l z,λa b m g=>ac' g (by rw[one a b,n];decide)⟩
   obtain rfl:=one a b;rw[ex] at q;cases q;have v:=aH (o:=XO bV (some d) e) G;exact⟨_,Z,_,Z,k e d p _ ak (v _ _ Y) (dp.same v _) (y.trans v)⟩
theorem Ni{S S1:eO}{l:List Tc}(R:Run S l S1){a:Nat}{x:Tc}(e:l[a]?=some x):∀(d:Nat)(o:List Nat)(T:eO),l.length-o.length<=d->Cu l o->Run S (pick l o) T->a∉o->(∀m y,m<a->l[m]?=some y->y.k=x.k->m∈o)->kE T.hs x.k=true
 | d,o,T,A,O,RT,na,q=>by
   have lt:o.length<l.length:=Nat.lt_of_le_of_ne (by have:=O.rest.1;lia) λz=>na (O.whole z a (aak.mp e).1);obtain⟨m,y,b,g,nm,n⟩:=O.left lt;have c:=R.next g b RT;obtain⟨s,f,j,h,_⟩:=id c;rcases Nat.lt_trichotomy m a with w|w|w
   .have k:y.k≠x.k:=λz=>nm (q m y w b z)
    have t:pick l (o++[m])=pick l o++[y]:=by rw[iH,gZ b];rfl
    have v:Run S (pick l (o++[m])) (cA T y.k):=by rw[t];exact Run.app.mpr ⟨T,RT,c,Z⟩
    cases d with
    | zero=>lia
    | succ d=>
      have:=Ni R e d (o++[m]) (cA T y.k) (by rw[abf,acT];lia) g v (λz=>by
       rcases acG.mp z with z|z
       .exact na z
       .have:=acQ.mp z;lia) λi z p r u=>List.mem_append_left _ (q i z p r u)
      rw[lA f h] at this;unfold kE at this ⊢;rwa [show (T.hs.set y.k (lU T.ns s y.r))[x.k]?=T.hs[x.k]? from List.getElem?_set_ne k] at this
   .subst w
    rw[e] at b;cases b;unfold kE;rw[f];exact aaO j
   .exact ac' (n a w) na
theorem LR{T:eO}{m:List Tc}(R:Run S m T)(t0:S.ts=[]):pY T=d_ m S.hs.length:=by
 unfold pY d_;rw[(qI R).1,Bf R,t0];exact List.map_congr_left λk _=>by rw[List.nil_append,Wv]
structure C55(S0 S1:eO)(l:List Tc)(n:Nat)(iC ns:List Nt):Prop where
 R:Run S0 l S1
 Z2:∀x∈l,touch x.r=true
 hn:∀x∈l,x.k<n
 N:Fe l true iC
 pm:ns.Perm iC
 sr:Dh ns
 n8:n<=8
 l50:l.length<=50
 h0:S0.hs.length=n
 t0:S0.ts=[]
 g0:kJ S0
 m0:S0.m<=100
 nl:iC.length<=5000
structure HD(CR CW CH:Addr)(i ii q:Nat)(τ:Tg)(H:Hp)(S0:eO)(l:List Tc)(n:Nat)(ns:List Nt)(R:Fd)(T:eO)(o:List Nat)(g:Addr):Prop where
 rp:jJ CR CW CH i ii τ H R T (d_ l n) ns (d_ (pick l o) n)
 eg:H g=some (.lst ((d_ (pick l o) n).map V.int))
 tg:τ g=[q]
 O:Cu l o
 run:Run S0 (pick l o) T
section
variable{CR:Addr}{ii q:Nat}{S0 S1:eO}{iC ns:List Nt}{R:Fd}{T:eO}{o:List Nat}{g:Addr}
theorem HD.mv(u:HD CR CW CH i ii q τ H S0 l n ns R T o g)(m:∀j,j=i\/j=ii\/j=q->Mv j τ H τ' H')(un:sU τ' H'):HD CR CW CH i ii q τ' H' S0 l n ns R T o g:=by
 have e:=(m q (.inr (.inr rfl))).keep _ _ u.eg (.inr (by rw[u.tg];rfl));exact⟨u.rp.mv (m i (.inl rfl)) (m ii (.inr (.inl rfl))) un,e.1,e.2.trans u.tg,u.O,u.run⟩
theorem HD.same(u:HD CR CW CH i ii q τ H S0 l n ns R T o g)(s:Same H H'):HD CR CW CH i ii q τ H' S0 l n ns R T o g:=u.mv (λ_ _=>Mv.of_same s) (u.rp.w.un.same s)
theorem C55.pick(c:C55 S0 S1 l n iC ns):∀x∈pick l o,x.k<n:=λx a=>by
 obtain⟨i,_,e⟩:=List.mem_filterMap.mp a;exact c.hn x (aaK e)
theorem HD.ts(u:HD CR CW CH i ii q τ H S0 l n ns R T o g)(c:C55 S0 S1 l n iC ns):T.ts.length<=50:=by
 have e:(Prf.pick l o).length=o.length:=u.O.rest.2;have:=u.O.rest.1;have:=c.l50;rw[Bf u.run,c.t0,abf,aae,e];show 0+o.length<=50;lia
theorem HD.le(u:HD CR CW CH i ii q τ H S0 l n ns R T o g)(h:k<n):kc (Prf.pick l o) k<=kc l k:=by
 have:=(u.rp.dn.2 k (by lia) (by rw[g_];lia)).2;rw[iU h,iU h] at this;lia
theorem HD.nxt(u:HD CR CW CH i ii q τ H S0 l n ns R T o g)(c:C55 S0 S1 l n iC ns)(h:kc (Prf.pick l o) k<kc l k):kE T.hs k=true:=by
 obtain⟨a,x,d,rfl,ca,_⟩:=BK h;refine Ni c.R d _ o T (aaw _) u.O u.run (λz=>by have:=(u.O.cnt d).mp z;lia) λm y e b f=>(u.O.cnt b).mpr ?_;have:=Jw e b;rw[f] at this ⊢;lia
theorem HD.ov(u:HD CR CW CH i ii q τ H S0 l n ns R T o g)(c:C55 S0 S1 l n iC ns)(h:k<n):iz T (d_ l n) (d_ (Prf.pick l o) n) k=decide (kc (Prf.pick l o) k=kc l k):=by
 unfold iz;rw[iU h,iU h]
 by_cases z:kc (Prf.pick l o) k=kc l k
 .rw[aaO (by lia),aaO z];rfl
 .have:=u.le h
  rw[aaQ (by lia),aaQ z,u.nxt c (by lia)];rfl
theorem C55.free(c:C55 S0 S1 l n iC ns):(iI ns gs k).isEmpty=(iC.filter (j_ gs k)).isEmpty:=by
 rw[BR];have:=(c.pm.filter (j_ gs k)).length_eq;cases e:ns.filter (j_ gs k)<;>cases e':iC.filter (j_ gs k)<;>rw[e,e'] at this<;>simp_all
end
inductive uZ(CW CH:Addr)(K:zzy)(vs:List V)(H:Hp)(Q:VK)(dX:XK):Prop|m:∀(j:Nat)(τ:Tg)(W:wg)(U:eO)(g:Addr)(gs:List Int),vs=[.ref W.o,.ref g]->mC CW CH j τ H W U->U.ts.length<=10000->(τ g).head?≠some j->H g=some (.lst (gs.map V.int))->U.hs.length<=8->((gs=pY U /\ ∀H',Same H H'->Q .non H')\/(∃k,gs=iy (pY U) k/\k<U.hs.length/\(∃s r,U.hs[k]?=some s/\s.st = "waits" /\ s.rws[s.pos]?=some r/\touch r=true) /\ ∀H',mC CW CH j τ H' W (cA U k)->jH j τ H H'->Q .non H'))->uZ CW CH K vs H Q dX
theorem QF(F:fZ K "_law_beside" "_law_beside" xJ f fd)(eY:MethAt P w K mg base 1 ao "counts" ["self"] (lB ao aq K))(jh:MethAt P w K mg base 7 ao "turn" ["self","hand"] (λvs H Q _=>wU ao aq bI cY K vs H Q λ_ _ _=>False))(aN:dz K ao)(Bt:nR mg):bR P w K mg base iB 9 f fd ["works","gone"] (uZ ao aq K):=by
 refine F.ok tU (λvs H Q E h=>?_) (λa7 A J s H vs Q E hr h=>?_)
 .obtain⟨j,v,W,U,g,p,rfl,_⟩:=h
  rfl
 .obtain⟨j,v,W,U,g,p,rfl,w,tl,tg,hg,n8,m⟩:=h
  refine⟨_,(aB (bH (i:=2) tU.nd rfl (Or.inl rfl) (cu eY aN.cls (hr.mono (by decide)) (pv 0)))
   (aJ (iQ PassesOwn.never rfl (cP (by rfl) Bt.dI (aj (aV (aW (K:=K) rfl) (by rfl) Bt.dJ cG (aj (pv 1) au)) au)) (bK (i:=3) tU.nd rfl (Or.inl rfl))
   (aJ (cj (bD ou (aO (aL (K:=K) rfl) (pv 2) (pv 3) (λ_ _=>rfl)) (aO (aL (K:=K) rfl) (pv 1) (pv 3) (λ_ _=>rfl)) (bA _)) (aJ (cN (cL jh aN.cls (hr.mono (by decide)) (pv 0) (aj (pv 3) au)))) bJ))))),?_⟩
  refine⟨_,Z,W.o,W.dx,_,Z,w.o,Z,j,v,W,U,Z,w,λl H1 hl N C=>?_⟩;have cl:(pY U).length=U.hs.length:=by unfold pY;simp
  have gl:p.length=U.hs.length:=by
   rcases m with ⟨e,_⟩|⟨k,e,_⟩
   .rw[e,cl]
   .rw[e];unfold iy;rw[acW,cl]
  have o:=C _ _ hg;have w1:=w.same C;have G:(v l).head?≠some j:=by rw[w.un l hl];simp
  dsimp only[bU];refine⟨_,Z,g,_,Z,.inl (bG.of o),(U.hs.length:Int),by rw[aae,gl],by lia,by lia,?_⟩;rw[acd];have ask:∀(c:Hp)(i:Nat),c l=some (.lst ((pY U).map V.int))->c g=some (.lst (p.map V.int))->i<U.hs.length->bG K c l ((pY U).map V.int)/\wG ((pY U).map V.int) (0+(i:Int))=some (V.int (gI (pY U) i))/\bG K c g (p.map V.int)/\wG (p.map V.int) (0+(i:Int))=some (V.int (gI p i)):=λc i a b h=>⟨bG.of a,by rw[Int.zero_add];exact gR (by lia) (by lia),bG.of b,by rw[Int.zero_add];exact gR (by lia) (by lia)⟩;rcases m with ⟨e,k⟩|⟨D,e,kl,⟨s,r,es,ws,er,tr⟩,k⟩
  .refine gD (lo:=0) (n:=U.hs.length) (λi q c=>∃x,q=[some (.ref W.o),some (.ref g),some (.ref l),x]/\Same H1 c) ⟨none,Z,.refl _⟩ ?_ (λq c ⟨x,e,d⟩=>by rw[e];exact k c (C.trans d))
   rintro i q c M ⟨x,rfl,d⟩;obtain⟨X,T,S,R⟩:=ask c i (d _ _ N) (d _ _ o) M;dsimp only[bU];refine⟨_,Z,_,Z,l,_,_,_,Z,Z,X,T,_,Z,_,Z,g,_,_,_,Z,Z,S,R,_,_,Z,Z,_,Z,?_⟩;rw[e,aaQ (by lia)];exact cX ⟨_,Z,d⟩
  .refine gD (lo:=0) (n:=U.hs.length) (λi q c=>∃x,q=[some (.ref W.o),some (.ref g),some (.ref l),x]/\((i<=D/\Same H1 c)\/(D<i/\mC ao aq j v c W (cA U D)/\jH j v H1 c))) ⟨none,Z,.inl ⟨Nat.zero_le _,.refl _⟩⟩ ?_ ?_
   .rintro i q c M ⟨x,rfl,h⟩
    have Y:c l=some (.lst ((pY U).map V.int))/\c g=some (.lst (p.map V.int)):=by
     rcases h with ⟨_,d⟩|⟨_,_,B⟩
     .exact⟨d _ _ N,d _ _ o⟩
     .exact⟨B.keep _ _ N G,B.keep _ _ o tg⟩
    obtain⟨X,T,S,R⟩:=ask c i Y.1 Y.2 M;dsimp only[bU];refine⟨_,Z,_,Z,l,_,_,_,Z,Z,X,T,_,Z,_,Z,g,_,_,_,Z,Z,S,R,_,_,Z,Z,_,Z,?_⟩
    by_cases z:i=D
    .subst z
     have O:gI p i=gI (pY U) i+1:=by
      rw[e];unfold iy;exact xW (List.getElem?_set_self (by lia))
     rw[O,aaO (by lia)];refine fH ?_
     have d:Same H1 c:=by
      rcases h with ⟨_,d⟩|⟨lt,_⟩
      .exact d
      .lia
     have y:=w1.same d;refine⟨_,Z,W.o,W.dx,_,Z,y.o,Z,_,Z,j,v,W,U,_,Z,y,tl,λL s' r' t H8 q1 u a0 a6 a5 tf tk wk I=>?_,λz=>ac' ⟨by lia,by lia⟩ z,λL s' q1 u nw=>?_⟩
     .have:L=i:=by lia
      subst this;exact⟨_,Z,.inr ⟨Nat.lt_succ_self _,wk,(jH.of_same d).trans I⟩⟩
     .have:L=i:=by lia
      subst this;rw[es] at u;cases u;exact ac' ws nw
    .have O:gI p i=gI (pY U) i:=by
      rw[e];unfold iy gI;rw[show ((i:Nat):Int).toNat=i from rfl,List.getElem?_set_ne (Ne.symm z)]
     rw[O,aaQ (by lia)];refine cX ⟨_,Z,?_⟩;rcases h with ⟨le,d⟩|⟨lt,h⟩
     .exact .inl ⟨by lia,d⟩
     .exact .inr ⟨by lia,h⟩
   .rintro q c ⟨x,rfl,⟨le,_⟩|⟨_,y,B⟩⟩
    .lia
    .exact k c y ((jH.of_same C).trans B)
structure B55(τ:Tg)(H:Hp)(r:Addr)(l:List Tc)(tl:Addr)(tls:List Addr)(n:Nat)(sm:Addr)(iC:List Nt):Prop where
 T:RT τ H r
 et:H tl=some (.lst (tls.map V.ref))
 tt:τ tl=[9]
 nt:tls.length=n
 ps:∀k p,tls[k]?=some p->τ p=[9] /\ ∃us,H p=some (.lst us)/\aR H us ((l.filter λt=>t.k=k).map Ij)
 N:kI H sm iC
 ts:τ sm=[9]
section
variable{r:Addr}{tl sm:Addr}{iC:List Nt}
theorem B55.mv(u:B55 τ H r l tl tls n sm iC)(q:RT τ' H' r)(a:∀x o,H x=some o->τ x=[9]->H' x=some o/\τ' x=[9])(tup:∀x xs,H x=some (.tup xs)->H' x=some (.tup xs)):B55 τ' H' r l tl tls n sm iC:=by
 obtain⟨g,j,m⟩:=u.N;have f:=a _ _ u.et u.tt;have c:=a _ _ j u.ts
 exact⟨q,f.1,f.2,u.nt,λk p h=>by
  obtain⟨t,i,e,d⟩:=u.ps k p h;have b:=a _ _ e t;exact⟨b.2,i,b.1,aR.keep tup _ (vL _) d⟩,⟨g,c.1,aR.keep tup _ (cH _ qW _) m⟩,c.2⟩
theorem B55.same(u:B55 τ H r l tl tls n sm iC)(s:Same H H'):B55 τ H' r l tl tls n sm iC:=u.mv (u.T.same s) (λ_ _ e t=>⟨s _ _ e,t⟩) s.tups
theorem B55.made(u:B55 τ H r l tl tls n sm iC)(s:Same H H')(a:∀x o,H x=some o->τ' x=τ x)(un:sU τ' H'):B55 τ' H' r l tl tls n sm iC:=
 u.mv (u.T.made s a un) (λ_ _ e t=>⟨s _ _ e,(a _ _ e).trans t⟩) s.tups
theorem B55.stp{i:Nat}(u:B55 τ H r l tl tls n sm iC)(a:i≠9)(s:jH i τ H H'):B55 τ H' r l tl tls n sm iC:=
 u.mv (u.T.stp s) (λ_ _ e t=>⟨s.keep _ _ e (by rw[t];intro z;exact a (abe z).symm),t⟩) s.tup
theorem B55.row(u:B55 τ H r l tl tls n sm iC)(h:k<n):∃p us,wG (tls.map V.ref) (k:Int)=some (.ref p)/\H p=some (.lst us)/\us.length=kc l k/\aR H us ((l.filter λt=>t.k=k).map Ij):=by
 obtain⟨p,a⟩:∃p,tls[k]?=some p:=⟨_,aaj (by rw[u.nt];exact h)⟩;obtain⟨_,us,e,d⟩:=u.ps k p a;exact⟨p,us,bL (by rw[aam,a];rfl),e,by rw[d.length,aae];rfl,d⟩
end
inductive uQ(CR CW CH:Addr)(K:zzy)(vs:List V)(H:Hp)(Q:VK)(dX:XK):Prop|m:∀(i ii q n:Nat)(τ:Tg)(r tl sm g:Addr)(tls:List Addr)(R:Fd)(T S0 S1:eO)(l:List Tc)(o:List Nat)(iC ns:List Nt),vs=[.ref R.o,.ref tl,.ref sm,.ref g]->B55 τ H r l tl tls n sm iC->HD CR CW CH i ii q τ H S0 l n ns R T o g->C55 S0 S1 l n iC ns->(∀H',Same H H'->Q (.bl true) H')->uQ CR CW CH K vs H Q dX
theorem Qu(F:fZ K "_law_told" "_law_told" Ga f fd)(Dl:MethAt P w K mg base 6 aC "free" ["self"] (zf aC ao aq K))(yU:MethAt P w K mg base 1 aC "counts" ["self"] (rR aC ao aq K))(Dm:MethAt P w K mg base 1 aC "done" ["self"] (zj aC ao aq K))(yh:MethAt P w K mg base 2 aC "__len__" ["self"] (Fy aC ao aq K))(uF:FnAt P w K mg base 1 "_law_held_by" ["some","gone","hand"] (uW K))(oG:FnAt P w K mg base 5 "_law_alike" ["found","due"] (oU 4 K))(aK:cW K aC)(Y:nR mg):bR P w K mg base iB 7 f fd ["one","touches","some","gone"] (uQ aC ao aq K):=by
 refine F.ok Aw (λvs H Q E h=>?_) (λc2 A a7 s H vs Q E X h=>?_)
 .obtain⟨i,ii,q,n,τ,r,tl,sm,g,L,R,T,S0,S1,l,o,U,ns,rfl,_⟩:=h
  rfl
 .obtain⟨i,ii,q,n,τ,r,tl,sm,g,L,R,T,S0,S1,l,o,U,ns,rfl,b,u,c,k⟩:=h
  have qX:=X.units;have n8:=c.n8;have gl:=g_ (pick l o) n;have cl:=g_ l n
  refine⟨_,(aB (mL (i:=4) rfl Aw.nd rfl (Or.inl rfl) (N:=["k","gone","touches"]) (own:=["k"]) (caps:=[3,1]) (bB.of (by kernel_rfl)) (cP (by rfl) Y.dI (aj (aV (aW (K:=K) rfl) (by rfl) Y.dJ cG (aj (pv 3) au)) au)) (λ_ _ _ _=>(bK (i:=0) (show List.Nodup (["k","gone","touches"]:List Str) by decide +kernel) rfl (Or.inl rfl))) (λ_ _ _ _=>(rZ (bD ou (aO (aL (K:=K) rfl) (pv 1) (pv 0) (λ_ _=>rfl)) (aV (aW (K:=K) rfl) (by rfl) Y.dJ cG (aj (aO (aL (K:=K) rfl) (pv 2) (pv 0) (λ_ _=>rfl)) au)) (bA _)))) (λ_ _ _ _=>(pv 0)))
   (aB (mL (i:=5) rfl Aw.nd rfl (Or.inl rfl) (N:=["k","some","gone"]) (own:=["k"]) (caps:=[2,3]) (bB.of (by kernel_rfl)) (dg (K:=K) rfl (pv 4)) (λ_ _ _ _=>(bK (i:=0) (show List.Nodup (["k","some","gone"]:List Str) by decide +kernel) rfl (Or.inl rfl))) (λ_ _ _ _=>(rZ (bD (vA (K:=K) rfl qX) (bN uF (X.mono (by decide)) (by rfl) (aj (pv 1) (aj (pv 2) (aj (pv 0) au)))) (cJ au) (bA _)))) (λ_ _ _ _=>(pv 0)))
   (aB (cj (fP (dH (bN oG (X.mono (by decide)) (by rfl) (aj (cJ (aj (cu Dl aK.cls (X.mono (by decide)) (pv 0)) (aj (cu yU aK.cls (X.mono (by decide)) (pv 0)) (aj (cu Dm aK.cls (X.mono (by decide)) (pv 0)) au)))) (aj (cJ (aj (pv 5) (aj (pv 3) (aj (cZ (vA (K:=K) rfl qX) (pv 4) (cJ au) (bA _)) au)))) au))))) (aJ (bw mR)) bJ)
   (aJ (bw (cZ eV (aV (Rr yh (X.mono (by decide))) (by rfl) Y.dJ cG (aj (pv 0) au)) (bY uf (aV (Ep (K:=K) rfl rfl) (by rfl) Y.aaC Wz (aj (dZ rfl (N:=["row"]) (own:=["row"]) (caps:=[]) (bB.of (by kernel_rfl)) (dg (K:=K) rfl (pv 1)) (λ_ _ _ _=>(bK (i:=0) (show List.Nodup (["row"]:List Str) by decide +kernel) rfl (Or.inl rfl))) (λ_ _ _ _=>dF) (λ_ _ _ _=>(aV (aW (K:=K) rfl) (by rfl) Y.dJ cG (aj (pv 0) au)))) au)) (aV (Ep (K:=K) rfl rfl) (by rfl) Y.aaC Wz (aj (pv 3) au))) (bA _))))))),?_⟩
  refine⟨_,Z,g,_,Z,.inl (bG.of u.eg),(n:Int),by rw[aae,gl],by lia,by lia,λD hD=>?_⟩;rw[acd];refine oE (λj:Nat=>if decide (kc (pick l o) j<kc l j) then some (.int (j:Nat)) else none) hD (by lia) (λj H1 G F m I kG S=>?_) (λH1 I e1=>?_)
  .obtain⟨p,us,ap,ep,lu,_⟩:=(b.same I).row m
   refine⟨_,Z,_,Z,_,_,_,_,Z,Z,bG.of (I _ _ u.eg),by rw[Int.zero_add];exact gR (by lia) (by lia),_,Z,_,Z,tl,_,_,_,Z,Z,bG.of (I _ _ b.et),by rw[Int.zero_add];exact ap,p,us,Z,.inl (bG.of ep),_,_,Z,Z,_,Z,?_⟩;rw[iU m,lu];refine cO (λq1=>?_) (λq1=>?_)
   .exact⟨_,Z,S _ H1 (Same.refl _) (by rw[Int.zero_add];exact ac_ (aaO (by have:=aaT q1;lia)))⟩
   .exact kG H1 (Same.refl _) (ac9 λz=>q1 (aaO (by have:=aaT z;lia)))
  rw[LC (λj:Nat=>decide (kc (pick l o) j<kc l j)) (λj:Nat=>V.int j)] at e1;have mW:∀x∈(List.range n).filter λj:Nat=>decide (kc (pick l o) j<kc l j),x<n:=λx hx=>acZ.mp (acY.mp hx).1
  have lW:((List.range n).filter λj:Nat=>decide (kc (pick l o) j<kc l j)).length<=n:=by
   have:=List.length_filter_le (λj:Nat=>decide (kc (pick l o) j<kc l j)) (List.range n);rwa [List.length_range] at this
  have dW:decide ((List.range n).filter (λj:Nat=>decide (kc (pick l o) j<kc l j))=[])=decide (d_ (pick l o) n=d_ l n):=by
   rw[Bool.eq_iff_iff,decide_eq_true_iff,decide_eq_true_iff,List.filter_eq_nil_iff];constructor
   .intro z
    unfold d_;refine List.map_congr_left λj m=>?_;have h1:=z j m;have h2:=u.le (acZ.mp m);have h1:¬kc (pick l o) j<kc l j:=λy=>h1 (aaO y);lia
   .intro z j m
    have h1:=congrArg (λgs=>gI gs (j:Int)) z;rw[iU (acZ.mp m),iU (acZ.mp m)] at h1;have:¬kc (pick l o) j<kc l j:=by lia
    simpa using this
  have eF:vO T (d_ l n) ns (d_ (pick l o) n)=((List.range n).filter λj:Nat=>decide (kc (pick l o) j<kc l j)).filter λj:Nat=>(U.filter (j_ (d_ (pick l o) n) j)).isEmpty:=by
   rw[List.filter_filter];unfold vO;rw[cl];refine List.filter_congr λj m=>?_;have m:=acZ.mp m;rw[u.ov c m,c.free,Bool.and_comm];congr 1;have:=u.le m;rw[Bool.eq_iff_iff,Bool.not_eq_true',decide_eq_false_iff_not,decide_eq_true_iff];lia
  generalize ((List.range n).filter λj:Nat=>decide (kc (pick l o) j<kc l j))=W at e1 mW lW dW eF;have a6:H1 D=some (.lst ((W.map λk:Nat=>(k:Int)).map V.int)):=by rw[e1,acV];rfl
  dsimp only[bU];refine⟨_,Z,D,Z,⟨_,bG.of e1⟩,λD2 a2=>?_⟩;refine jV (K:=K) (λi=>(W[i]?).bind λx:Nat=>if (U.filter (j_ (d_ (pick l o) n) x)).isEmpty then some (V.int x) else none) a2 (bG.of e1) (by rw[aae];lia) (λi v H3 G F hi O kG S=>?_) (λH3 O e3=>?_)
  .rw[aam] at hi
   obtain⟨x,eq,rfl⟩:∃x:Nat,W[i]?=some x/\v=.int x:=by
    cases e:W[i]? with
    | none=>rw[e] at hi;cases hi
    | some x=>rw[e] at hi;exact⟨x,Z,(abe hi).symm⟩
   have ql:=mW x (aaK eq);rw[eq,ac8] at kG S;have S3:=I.trans O;refine⟨_,Z,_,Z,_,Z,sm,g,U,d_ l n,d_ (pick l o) n,x,Z,b.N.same S3,c.nl,λy hy=>u.rp.ok.2.2 y (c.pm.mem_iff.mpr hy),S3 _ _ u.eg,by lia,by lia,λl1 hs H4 fl N4 p4 b7 M=>?_⟩;refine⟨(by show 0<=sizeLine;decide),λem J=>?_⟩;have t:=aH (o:=HO.lst []) J;obtain⟨ws,el,dw⟩:=N4.same t;refine⟨_,_,jc el dw,jc ak (ds:=([]:List Nt).map nD) (by simp[aR]),oW _,oW _,_,Z,?_⟩;rw[ac9 aaV,lX nD Wc]
   have eb:(U.filter (j_ (d_ (pick l o) n) x)).isEmpty=decide (hs=[]):=by
    have:=p4.length_eq;cases hs with
    | nil=>rw[aaO rfl,List.eq_nil_of_length_eq_zero this.symm];rfl
    | cons a b=>
      rw[aaQ (by simp)];cases e:U.filter (j_ (d_ (pick l o) n) x) with
      | nil=>rw[e] at this;simp at this
      | cons=>rfl
   rw[eb] at kG S;refine cO (λz=>?_) (λz=>?_)
   .exact⟨_,Z,S _ _ (M.trans t) (ac_ z)⟩
   .exact kG _ (M.trans t) (ac9 z)
  rw[aae,zE (λx:Nat=>(U.filter (j_ (d_ (pick l o) n) x)).isEmpty) (λx:Nat=>V.int x),←eF] at e3;have b1:=O _ _ a6;have b3:=b.same (I.trans O);have u3:=u.same (I.trans O);have RL:=I.trans O;clear O e1 a6 I hD a2 mW eF;have b2:H3 D2=some (.lst (((vO T (d_ l n) ns (d_ (pick l o) n)).map λk:Nat=>(k:Int)).map V.int)):=by rw[e3,acV];rfl
  have lF:(vO T (d_ l n) ns (d_ (pick l o) n)).length<=n:=by
   unfold vO;refine ac5 (List.length_filter_le _ _) ?_;rw[List.length_range,cl];exact aaw _
  dsimp only[bU];refine⟨_,Z,R.o,R.dx,_,Z,u3.rp.o,Z,i,ii,τ,R,T,_,_,ns,Z,u3.rp,λf1 H4 a8 a4 M=>?_⟩;have u4:=u3.same M;refine⟨_,Z,R.o,R.dx,_,Z,u4.rp.o,Z,i,ii,τ,R,T,_,_,ns,Z,u4.rp,λc1 H5 a9 a5 s5=>?_⟩;have u5:=u4.same s5;refine⟨_,Z,R.o,R.dx,_,Z,u5.rp.o,Z,i,ii,τ,R,T,_,_,ns,Z,u5.rp,?_⟩;refine⟨(by show 3<=sizeLine;decide),λp1 a1=>?_⟩;have s6:=aH (o:=HO.lst [V.ref f1,V.ref c1,V.bl (decide (d_ (pick l o) n=d_ l n))]) a1;have a3:H5 f1=some (.lst (((vO T (d_ l n) ns (d_ (pick l o) n)).map λk:Nat=>(k:Int)).map V.int)):=by rw[s5 _ _ a4,acV];rfl
  have d6:Dat (upd H5 p1 (.lst [V.ref f1,V.ref c1,V.bl (decide (d_ (pick l o) n=d_ l n))])) (.ref p1) (.list [jq ((vO T (d_ l n) ns (d_ (pick l o) n)).map λk:Nat=>(k:Int)),jq (d_ (pick l o) n),.bool (decide (d_ (pick l o) n=d_ l n))]):=by
   refine jc ak ?_;simp only[aR,Dat,and_true];exact⟨dh (s6 _ _ a3),dh (s6 _ _ a5)⟩
  have b6:=((b3.same M).same s5).same s6;have u6:=u5.same s6;have B:=(M.trans s5).trans s6;clear a3 a4 a5 M s5 s6 u3 u4 u5 b3 a8 a9 a1;generalize upd H5 p1 (.lst [V.ref f1,V.ref c1,V.bl (decide (d_ (pick l o) n=d_ l n))])=H6 at d6 b6 u6 B ⊢;refine⟨_,Z,_,Z,_,Z,(by show 0<=sizeLine;decide),λem J=>?_⟩;have t:=aH (o:=HO.lst []) J;refine⟨_,_,dh (t _ _ (B _ _ b1)),dh (ns:=[]) ak,shaped_ints _,shaped_ints [],?_⟩;rw[ac9 (by decide),lX PyData.int vU,show decide ((W.map λk:Nat=>(k:Int))=[])=decide (W=[]) by cases W<;>simp,dW];refine⟨(by show 3<=sizeLine;decide),λp2 a0=>?_⟩;have s7:=t.trans (aH (o:=HO.lst [V.ref D2,V.ref g,V.bl (decide (d_ (pick l o) n=d_ l n))]) a0)
  have d7:Dat (upd (upd H6 em (.lst [])) p2 (.lst [V.ref D2,V.ref g,V.bl (decide (d_ (pick l o) n=d_ l n))])) (.ref p2) (.list [jq ((vO T (d_ l n) ns (d_ (pick l o) n)).map λk:Nat=>(k:Int)),jq (d_ (pick l o) n),.bool (decide (d_ (pick l o) n=d_ l n))]):=by
   refine jc ak ?_;simp only[aR,Dat,and_true];exact⟨dh (s7 _ _ (B _ _ b2)),dh (s7 _ _ u6.eg)⟩
  refine⟨_,_,_,Z,d6.same s7 _,d7,⟨by show 3<=20000;decide,λd hd=>?_⟩,λH8 s8=>?_⟩
  .simp only[List.mem_cons,List.not_mem_nil,or_false] at hd
   rcases hd with rfl|rfl|rfl
   .exact WQ.ints (by rw[aae];lia)
   .exact WQ.ints (by lia)
   .trivial
  have C:=s7.trans s8;have b8:=b6.same C;have u8:=u6.same C;have S8:=(RL.trans B).trans C;clear d6 d7 s7 s8 b6 u6 B RL t a0 J C;refine⟨_,Z,cX ?_⟩;unfold uN;dsimp only
  have b5:(d_ l n).sum-(d_ (pick l o) n).sum=(l.length:Int)-(o.length:Int):=by
   rw[GR n _ l rfl c.hn,GR n _ (pick l o) rfl c.pick,u8.O.rest.2]
  have ol:=u8.O.rest.1;have c0:=c.l50;refine⟨_,Z,R.o,R.dx,_,Z,u8.rp.o,⟨i,ii,τ,R,T,_,_,ns,Z,u8.rp,λH9 s9=>⟨_,Z,by lia,by lia,?_⟩⟩⟩;have b9:=b8.same s9;have u9:=u8.same s9;refine⟨_,Z,tl,Z,⟨_,bG.of b9.et⟩,λD3 b0=>?_⟩;refine jV (K:=K) (λj=>some (.int (kc l j))) b0 (bG.of b9.et) (by rw[aae,b9.nt];lia) (λj v Ha G F m sa kG S=>?_) (λHa sa ea=>?_)
  .rw[aam] at m
   obtain⟨p,ep,rfl⟩:∃p,L[j]?=some p/\v=.ref p:=by
    cases e:L[j]? with
    | none=>rw[e] at m;cases m
    | some p=>rw[e] at m;exact⟨p,Z,(abe m).symm⟩
   obtain⟨_,us,eu,du⟩:=b9.ps j p ep;dsimp only[bU,yK];rw[ac_ rfl];refine⟨_,Z,p,us,Z,.inl (bG.of (sa _ _ eu)),?_⟩;rw[show us.length=kc l j by rw[du.length,aae];rfl];exact S _ Ha (Same.refl _) rfl
  have b4:Ha D3=some (.lst ((d_ l n).map V.int)):=by
   rw[ea,aae,b9.nt];unfold d_;rw[acV,List.filterMap_eq_map'];rfl
  refine⟨D3,d_ l n,Z,bG.of b4,?_⟩;refine⟨_,Z,g,d_ (pick l o) n,Z,bG.of (sa _ _ u9.eg),?_⟩;refine⟨_,_,Z,Z,Z,?_⟩;rw[aaO rfl];exact k Ha ((S8.trans s9).trans sa)
theorem ad_(x:Nt):WQ (n+2) (nD x):=by
 refine⟨by show 4<=20000;decide,λd a=>?_⟩;simp only[List.mem_cons,List.not_mem_nil,or_false] at a;rcases a with rfl|rfl|rfl|rfl<;>trivial
def Nx(l:List Tc)(T:eO)(o:List Nat)(c:eO)(a:List Nat):Prop:=(a=o/\c=T) \/ ∃b x,l[b]?=some x/\a=o++[b]/\c=cA T x.k/\Kr T x
def St3(i a q:Nat)(τ:Tg)(H H':Hp):Prop:=∃H1 H2,jH i τ H H1/\jH a τ H1 H2/\jH q τ H2 H'
theorem St3.of_same{i a q:Nat}{τ:Tg}{H H':Hp}(s:Same H H'):St3 i a q τ H H':=⟨H',H',.of_same s,.refl _ _ _,.refl _ _ _⟩
inductive uR(CR CW CH:Addr)(K:zzy)(vs:List V)(H:Hp)(Q:VK)(dX:XK):Prop|m:∀(i ii q n:Nat)(τ:Tg)(r tl sm g:Addr)(tls:List Addr)(R:Fd)(T S0 S1:eO)(l:List Tc)(o:List Nat)(iC ns:List Nt)(h:Nat),vs=[.ref R.o,.ref tl,.ref sm,.ref g,.int h]->B55 τ H r l tl tls n sm iC->HD CR CW CH i ii q τ H S0 l n ns R T o g->C55 S0 S1 l n iC ns->h<n->i≠9->ii≠9->q≠9->q≠0->i≠q->ii≠q->(∀(T':eO)(o':List Nat)(H':Hp),Nx l T o T' o'->HD CR CW CH i ii q τ H' S0 l n ns R T' o' g->St3 i ii q τ H H'->Q (.bl true) H')->uR CR CW CH K vs H Q dX
theorem Qw(F:fZ K "_law_step" "_law_step" Gb f fd)(kh:Xr K mg cY "Over")(lZ:Xf K mg bV "Held" "note")(Cz:FnAt P w K mg base 9 "_law_refusal" ["one","hand"] (yZ aC ao aq cY bV K))(uF:FnAt P w K mg base 1 "_law_held_by" ["some","gone","hand"] (uW K))(nQ:MethAt P w K mg base 8 aC "turn" ["self","hand"] (λvs H Q _=>uU aC ao aq bI cY bV K vs H Q λ_ _ _=>False))(oG:FnAt P w K mg base 5 "_law_alike" ["found","due"] (oU 4 K))(aK:cW K aC)(Bt:nR mg):bR P w K mg base iB 10 f fd ["one","touches","some","gone","hand"] (uR aC ao aq K):=by
 refine F.ok qw (λvs H Q E h=>?_) (λc8 A b4 s H vs Q E O h=>?_)
 .obtain⟨i,ii,q,n,J,r,tl,sm,g,a9,R,T,S0,S1,l,o,iC,Y,B,rfl,_⟩:=h
  rfl
 .obtain⟨i,ii,q,n,J,r,tl,sm,g,a9,R,T,S0,S1,l,o,iC,Y,B,rfl,b,u,c,S,i9,b7,q9,q0,iq,a3,k⟩:=h
  have qX:=O.units;have n8:=c.n8;have gl:=g_ (pick l o) n;have cl:=g_ l n;have SN:=u.ts c
  refine⟨_,(aB (cj (bD eV (aO (aL (K:=K) rfl) (pv 3) (pv 4) (λ_ _=>rfl)) (aV (aW (K:=K) rfl) (by rfl) Bt.dJ cG (aj (aO (aL (K:=K) rfl) (pv 1) (pv 4) (λ_ _=>rfl)) au)) (bA _)) (aJ (bw (aV (J0 (K:=K) (c:= .ref cY) (cv:= .ref cY) rfl (λ_ h=>h)) (by rfl) Bt.bQ bM (aj (bN Cz (O.mono (by decide)) (by rfl) (aj (pv 0) (aj (pv 4) au))) (aj (jN (v:= .ref cY) (by rfl) kh.bd rfl) au))))) bJ)
   (aB (bH (i:=5) qw.nd rfl (Or.inl rfl) (bN uF (O.mono (by decide)) (by rfl) (aj (pv 2) (aj (pv 3) (aj (pv 4) au)))))
   (aB (cj (bD (Gn (K:=K) rfl qX) (pv 5) (cJ au) (bA _)) (aB (bH (i:=6) qw.nd rfl (Or.inl rfl) (bN Cz (O.mono (by decide)) (by rfl) (aj (pv 0) (aj (pv 4) au))))
   (aJ (bw (j9 (aV (J0 (K:=K) (c:= .ref bV) (cv:= .ref bV) rfl (λ_ h=>h)) (by rfl) Bt.bQ bM (aj (pv 6) (aj (jN (v:= .ref bV) (by rfl) lZ.bd rfl) au))) (jA (bN oG (O.mono (by decide)) (by rfl) (aj (Ys (K:=K) rfl (pv 6) rfl) (aj (aO (aL (K:=K) rfl) (pv 5) aG (λ_ _=>rfl)) au)))))))) bJ)
   (aB (bH (i:=7) qw.nd rfl (Or.inl rfl) (cL nQ aK.cls (O.mono (by decide)) (pv 0) (aj (pv 4) au)))
   (aB (bH (i:=8) qw.nd rfl (Or.inl rfl) (aO (aL (K:=K) rfl) (aO (aL (K:=K) rfl) (pv 1) (pv 4) (λ_ _=>rfl)) (aO (aL (K:=K) rfl) (pv 3) (pv 4) (λ_ _=>rfl)) (λ_ _=>rfl)))
   (aB (pq (bY iR (aO (aL (K:=K) rfl) (pv 3) (pv 4) (λ_ _=>rfl)) aG) (qM (pv 3) (pv 4) set_list))
   (aJ (bw (bN oG (O.mono (by decide)) (by rfl) (aj (pv 7) (aj (pv 8) au))))))))))),?_⟩
  obtain⟨p,us,ap,ep,lu,du⟩:=b.row S;have gx:gI (d_ (pick l o) n) B=kc (pick l o) B:=iU S;have ov:=u.ov c S;have le:=u.le S;refine⟨_,Z,_,Z,_,_,_,_,Z,Z,bG.of u.eg,gR (by lia) (by lia),_,Z,_,Z,tl,_,_,_,Z,Z,bG.of b.et,ap,p,us,Z,.inl (bG.of ep),?_⟩;have same:∀W,Same H W->Q (.bl true) W:=λW s'=>k T o W (.inl ⟨Z,Z⟩) (u.same s') (.of_same s');have b5:∀y∈iC,WR (d_ l n) y:=λy hy=>u.rp.ok.2.2 y (c.pm.mem_iff.mpr hy);rw[gx,lu];refine⟨Z,_,Z,?_⟩
  by_cases q1:kc (pick l o) B=kc l B
  .rw[aaO (by rw[q1])]
   refine fH ?_;exact⟨_,Z,_,Z,i,ii,J,R,T,_,_,Y,B,Z,u.rp,by lia,by lia,.inl ⟨by rw[ov,aaO q1],λe W ee s'=>⟨e,_,[],true,Z,.inl ⟨ee,Z⟩,kh.xc,Jv,same W s'⟩⟩⟩
  rw[aaQ (λz=>q1 (by have:=V.int.inj z;lia))];refine cX ?_;unfold uN;dsimp only;have eo:iz T (d_ l n) (d_ (pick l o) n) B=false:=by rw[ov,aaQ q1]
  refine⟨_,Z,_,Z,_,Z,sm,g,iC,d_ l n,d_ (pick l o) n,B,Z,b.N,c.nl,b5,u.eg,by lia,by lia,λl1 hs H1 fl N1 p1 a0 s1=>?_⟩;have eh:=JC c.pm c.sr p1 a0;clear p1 a0;refine⟨_,Z,(by show 0<=sizeLine;decide),λem b8=>?_⟩;have N:=aH (o:=HO.lst []) b8;have G:=s1.trans N;have a7:(upd H1 em (.lst [])) em=some (.lst []):=ak;have N2:=N1.same N;generalize (upd H1 em (.lst []))=H2 at N G a7 N2 ⊢;obtain⟨ws,el,dw⟩:=id N2;have u2:=u.same G;have b2:=b.same G;refine⟨_,_,jc el dw,jc a7 (ds:=([]:List Nt).map nD) (by simp[aR]),oW _,oW _,_,Z,?_⟩;rw[ac_ rfl,lX nD Wc];cases hs with
  | cons x0 xr=>
    rw[aaQ (by simp)];refine fH ?_;refine⟨_,Z,_,Z,i,ii,J,R,T,_,_,Y,B,Z,u2.rp,by lia,by lia,.inr ⟨x0,eo,by rw[←eh];rfl,λe d p I ee a5 dp s3=>?_⟩⟩
    obtain⟨v0,vr,rfl⟩:∃v0 vr,ws=v0::vr:=by
     cases ws with
     | nil=>simp[aR] at dw
     | cons a b=>exact⟨a,b,Z⟩
    have d0:Dat H2 v0 (nD x0):=by simp only[List.map_cons,aR] at dw;exact dw.1
    dsimp only[bU];refine⟨_,Z,e,bV,_,true,Z,.inr ⟨d,ee,a5⟩,lZ.xc,Jv,true,Z,fH ?_⟩;exact⟨_,Z,e,bV,d,_,_,Z,ee,a5,lZ.xc,lZ.dc,lZ.na,Z,_,Z,_,_,_,_,Z,Z,bG.of (s3 _ _ el),bL (j:=0) rfl,_,_,_,Z,dp,d0.same s3 _,ad_ x0,λH6 s6=>same H6 ((G.trans s3).trans s6)⟩
  | nil=>
    rw[aaO rfl];refine cX ?_;dsimp only;have N':Fe l true Y:=λy=>c.pm.mem_iff.trans (c.N y);obtain⟨b0,x,eb,rfl,O',fx⟩:=Q9 u.O c.Z2 c.hn N' S le eo eh.symm;have D:=c.R.next O' eb u.run;have b6:wC (x.k:Int) (d_ l n).length:=⟨by lia,by lia⟩;have one:∀t:Nat,(x.k:Int)=t->t=x.k:=λt e=>by lia
    refine⟨_,Z,R.o,R.dx,_,Z,u2.rp.o,Z,_,Z,i,ii,J,R,T,_,_,Y,x.k,Z,u2.rp,by lia,λt x' p d W e1 e2 e3 e4=>ac' e4 (by rw[one t e1,←eh];simp),λt s' r' t' I e1 e2 e3 c7 es c5 er tr tf tk a1 b1=>?_,λz=>ac' b6 z,λt e1 e2 e3=>ac' e3 (by rw[one t e1,eo];decide)⟩;obtain rfl:=one t e1;obtain⟨Hm,M,L⟩:=b1
    have dt:Dat I (.ref t') (Ij x):=by
     obtain⟨G,q1,q2,q3,q4,q5⟩:=D;rw[es] at q1;cases q1;rw[er] at q3;cases q3;have:=Rh tk;unfold Aa at this;unfold Ij;rw[q4,q5];exact this
    have pl:WQ 4 (Ij x):=by
     obtain⟨G,q1,q2,q3,q4,q5⟩:=D;have:=Uo (n:=2) T.ns G.bs x.r;unfold Aa at this;unfold Ij;rw[q4,q5];exact this
    have b3:=(b2.stp i9 M).stp b7 L;have a4:∀m:Nat,m≠q->(J g).head?≠some m:=λm ne=>by rw[u.tg];intro z;exact ne (abe z).symm
    have C:=L.keep _ _ (M.keep _ _ u2.eg (a4 i iq)) (a4 ii a3);obtain⟨p3,a8,c4,c1,c6,c3⟩:=b3.row S;obtain⟨v3,b9,c2⟩:=c3.getD (i:=kc (pick l o) x.k) (d:=Ij x) (by rw[aam,fx];rfl);refine⟨_,Z,_,Z,tl,_,x.k,_,Z,Z,bG.of b3.et,c4,_,Z,_,Z,g,_,x.k,_,Z,Z,bG.of C,gR (by lia) (by lia),?_⟩;rw[gx];refine⟨p3,a8,_,v3,Z,Z,bG.of c1,bL b9,?_⟩;refine⟨_,Z,_,Z,g,_,x.k,_,Z,Z,bG.of C,gR (by lia) (by lia),_,_,Z,Z,_,Z,_,Z,g,_,x.k,_,Z,Z,C,zB (by lia) (by rw[aae];lia),?_⟩
    have c0:(List.map V.int (d_ (pick l o) n)).set (x.k:Int).toNat ((λi j=>V.int (i+j)) (gI (d_ (pick l o) n) x.k) 1)=List.map V.int (iy (d_ (pick l o) n) x.k):=by
     unfold iy;rw[List.map_set];rfl
    rw[c0];have X:jH q J I (upd I g (.lst ((iy (d_ (pick l o) n) x.k).map V.int))):=jH.set (by rw[u.tg];rfl) C (by intro xs z;cases z);have a6:(upd I g (.lst ((iy (d_ (pick l o) n) x.k).map V.int))) g=some (.lst ((iy (d_ (pick l o) n) x.k).map V.int)):=ak;generalize upd I g (.lst ((iy (d_ (pick l o) n) x.k).map V.int))=H4 at X a6 ⊢;have ep:pick l (o++[b0])=pick l o++[x]:=by rw[iH,gZ eb];rfl
    have eq:d_ (pick l (o++[b0])) n=iy (d_ (pick l o) n) x.k:=by rw[ep,BW S]
    have U:HD aC ao aq i ii q J H4 S0 l n Y R (cA T x.k) (o++[b0]) g:=by
     refine⟨?_,by rw[eq];exact a6,u.tg,O',by rw[ep];exact Run.app.mpr ⟨T,u.run,D,Z⟩⟩;rw[eq];exact a1.mv (Mv.cU X (Ne.symm iq) q0) (Mv.cU X (Ne.symm a3) q0) (X.un a1.w.un)
    have a2:∀(v:V),Dat I v (Ij x)->Dat H4 v (Ij x):=λv dv=>Dat.keep X.tup _ (VH x) dv;refine⟨_,Z,_,Z,_,_,Ij x,Z,a2 _ dt,a2 _ c2,pl,λH5 s5=>?_⟩;exact k _ _ H5 (.inr ⟨b0,x,eb,Z,Z,D⟩) (U.same s5) ⟨Hm,I,(jH.of_same G).trans M,L,X.trans (.of_same s5)⟩
theorem fu{a b:TS}{D:Ends}(h:∀r,r=b->Ik a r D σ H):Ik a b D σ H:=h b rfl
theorem abg{seq:List Nt}(m:n<=8)(o:l.length<=50)(ls:seq.length<=2501)(e:∀x∈l,x.k<n)(N:Fe l few seq):Fb (d_ l n) seq:=by
 refine⟨⟨by rw[g_];exact m,λc r=>?_⟩,by lia,λx q=>?_⟩
 .obtain⟨k,_,rfl⟩:=acL.mp r
  have:kc l k<=l.length:=List.length_filter_le _ _;lia
 .obtain⟨i,j,p,d,rfl⟩:=(N x).mp q
  have lt:=Nj d;obtain⟨_,⟨u,v,g,f,mt⟩,_⟩:=d;obtain⟨y,b⟩:∃y,l[i]?=some y:=⟨_,aaj (by lia)⟩;obtain⟨z,a⟩:∃z,l[j]?=some z:=⟨_,aaj p⟩;rw[aam,b] at g;rw[aam,a] at f;cases g;cases f;have h:=e y (aaK b);have zn:=e z (aaK a);have t:=VF b;have s:=VF a;have ne:=(Ot.mp mt).1;rw[Oo b a];unfold WR;dsimp only;rw[g_,iU h,iU zn];refine⟨⟨by lia,by lia⟩,⟨by lia,by lia⟩,⟨by lia,by lia⟩,⟨by lia,by lia⟩,ne⟩
theorem JQ{H:Hp}:∀{vs:List V}{ds:List PyData},aR H vs ds->aR H vs.reverse ds.reverse
 | [],[],_=>by simp[aR]
 | v::vs,d::ds,h=>by
   simp only[aR] at h;rw[List.reverse_cons,List.reverse_cons];exact iW (JQ h.2) h.1
structure El where
 (R:Fd) (W:wg) (T U:eO) (o:List Nat) (g:Addr)
structure E55(CR CW CH:Addr)(j:Nat)(τ:Tg)(H:Hp)(S0:eO)(l:List Tc)(n:Nat)(ns:List Nt)(e:El):Prop where
 G:HD CR CW CH (4*j+20) (4*j+21) (4*j+23) τ H S0 l n ns e.R e.T e.o e.g
 w:mC CW CH (4*j+22) τ H e.W e.U
def Md(S0:eO)(l:List Tc)(e:El):Prop:=e.U=e.T \/ ∃o0 b x,e.o=o0++[b]/\l[b]?=some x/\Run S0 (pick l o0) e.U/\e.T=cA e.U x.k/\Kr e.U x
def Frm(j:Nat)(τ:Tg)(H H':Hp):Prop:=∃H1,St3 (4*j+20) (4*j+21) (4*j+23) τ H H1/\jH (4*j+22) τ H1 H'
theorem Frm.mv(f:Frm j τ H H')(h:m<4*j+20\/4*j+24<=m):Mv m τ H τ H':=by
 obtain⟨H1,⟨g,e,d,c,b⟩,a⟩:=f;exact(((Mv.cU d (by lia) (by lia)).trans (Mv.cU c (by lia) (by lia))).trans (Mv.cU b (by lia) (by lia))).trans (Mv.cU a (by lia) (by lia))
theorem Frm.rt{r:Addr}(f:Frm j τ H H')(T:RT τ H r):RT τ H' r:=by
 obtain⟨H1,⟨g,e,d,c,b⟩,a⟩:=f;exact(((T.stp d).stp c).stp b).stp a
structure sV(CR CW CH:Addr)(τ:Tg)(H:Hp)(r:Addr)(l:List Tc)(tl:Addr)(tls:List Addr)(n:Nat)(sm:Addr)(iC ns:List Nt)(S0:eO)(es:List El)(rl bl gl:Addr)(ra ba ga:List Addr):Prop where
 b:B55 τ H r l tl tls n sm iC
 al:∀(j:Nat)(e:El),es[j]?=some e->E55 CR CW CH j τ H S0 l n ns e
 er:H rl=some (.lst (ra.map V.ref))
 eb:H bl=some (.lst (ba.map V.ref))
 eg:H gl=some (.lst (ga.map V.ref))
 tr:τ rl=[10]
 tb:τ bl=[10]
 tg:τ gl=[10]
 nb:rl≠bl
 ng:rl≠gl
 nn:bl≠gl
 l6:es.length<=6
section
variable{CR:Addr}{r tl sm rl bl gl:Addr}{ra ba ga:List Addr}{iC ns:List Nt}{S0:eO}{es:List El}
theorem E55.mv{j:Nat}{e:El}(u:E55 CR CW CH j τ H S0 l n ns e)(m:∀k,20<=k->Mv k τ H τ' H')(un:sU τ' H'):E55 CR CW CH j τ' H' S0 l n ns e:=
 ⟨u.G.mv (λk a=>m k (by lia)) un,u.w.mv (m _ (by lia)) un⟩
theorem sV.mv(u:sV CR CW CH τ H r l tl tls n sm iC ns S0 es rl bl gl ra ba ga)(i:RT τ' H' r)(m:∀k,k=9\/k=10\/20<=k->Mv k τ H τ' H'):sV CR CW CH τ' H' r l tl tls n sm iC ns S0 es rl bl gl ra ba ga:=by
 have c:=m 9 (.inl rfl);have b:=m 10 (.inr (.inl rfl))
 have a:∀{x o},H x=some o->τ x=[10]->H' x=some o/\τ' x=[10]:=fun {x o} e t=>by
  have:=b.keep _ _ e (.inr (by rw[t];rfl));exact⟨this.1,this.2.trans t⟩
 have g:=a u.er u.tr;have f:=a u.eb u.tb;have d:=a u.eg u.tg
 exact⟨u.b.mv i (λx o e t=>by
  have:=c.keep _ _ e (.inr (by rw[t];rfl));exact⟨this.1,this.2.trans t⟩) c.tup,λj e h=>(u.al j e h).mv (λk p=>m k (.inr (.inr p))) i.un,g.1,f.1,d.1,g.2,f.2,d.2,u.nb,u.ng,u.nn,u.l6⟩
theorem sV.same(u:sV CR CW CH τ H r l tl tls n sm iC ns S0 es rl bl gl ra ba ga)(s:Same H H'):sV CR CW CH τ H' r l tl tls n sm iC ns S0 es rl bl gl ra ba ga:=u.mv (u.b.T.same s) λ_ _=>Mv.of_same s
theorem sV.made(u:sV CR CW CH τ H r l tl tls n sm iC ns S0 es rl bl gl ra ba ga)(s:Same H H')(a:∀x o,H x=some o->τ' x=τ x)(un:sU τ' H'):sV CR CW CH τ' H' r l tl tls n sm iC ns S0 es rl bl gl ra ba ga:=u.mv (u.b.T.made s a un) λ_ _=>Mv.tags s a
theorem sV.draw(u:sV CR CW CH τ H r l tl tls n sm iC ns S0 es rl bl gl ra ba ga)(d:Dr τ r H H')(a:RT τ H' r):sV CR CW CH τ H' r l tl tls n sm iC ns S0 es rl bl gl ra ba ga:=u.mv a λ_ _=>d.mv
theorem sV.put{e':El}(u:sV CR CW CH τ H r l tl tls n sm iC ns S0 es rl bl gl ra ba ga)(f:Frm j τ H H')(h:E55 CR CW CH j τ H' S0 l n ns e'):sV CR CW CH τ H' r l tl tls n sm iC ns S0 (es.set j e') rl bl gl ra ba ga:=by
 have g:=f.rt u.b.T;have i:=f.mv (m:=9) (by lia);have d:=f.mv (m:=10) (by lia);have b:∀{x o},H x=some o->τ x=[10]->H' x=some o:=fun {x o} e t=>(d.keep _ _ e (.inr (by rw[t];rfl))).1;refine⟨u.b.mv g (λx o e t=>⟨(i.keep _ _ e (.inr (by rw[t];rfl))).1,t⟩) i.tup,λk e c=>?_,b u.er u.tr,b u.eb u.tb,b u.eg u.tg,u.tr,u.tb,u.tg,u.nb,u.ng,u.nn,by rw[acW];exact u.l6⟩
 by_cases z:j=k
 .subst z
  have p:j<es.length:=by have:=(aak.mp c).1;rwa [acW] at this
  rw[List.getElem?_set_self p] at c;cases c;exact h
 .rw[List.getElem?_set_ne z] at c
  have a:=u.al k e c;exact⟨a.G.mv (λm q=>f.mv (by lia)) g.un,a.w.mv (f.mv (by lia)) g.un⟩
theorem sV.grow(u:sV CR CW CH τ H r l tl tls n sm iC ns S0 es rl bl gl ra ba ga){x:Addr}{o:HO}(c:τ x=[10])(ex:H x=some o)(no:∀xs,o ≠ .tup xs):jH 10 τ H (upd H x (.lst vs))/\RT τ (upd H x (.lst vs)) r/\B55 τ (upd H x (.lst vs)) r l tl tls n sm iC /\ ∀(j:Nat)(e:El),E55 CR CW CH j τ H S0 l n ns e->E55 CR CW CH j τ (upd H x (.lst vs)) S0 l n ns e:=by
 have s:jH 10 τ H (upd H x (.lst vs)):=jH.set (by rw[c];rfl) ex no;have b:=u.b.T.stp s;exact⟨s,b,u.b.stp (by decide) s,λj e a=>a.mv (λk d=>Mv.cU s (by lia) (by decide)) b.un⟩
theorem sV.aeM(u:sV CR CW CH τ H r l tl tls n sm iC ns S0 es rl bl gl ra ba ga)(x:Addr):sV CR CW CH τ (upd H rl (.lst ((ra++[x]).map V.ref))) r l tl tls n sm iC ns S0 es rl bl gl (ra++[x]) ba ga:=by
 obtain⟨s,c,a,k⟩:=u.grow u.tr u.er (by intro b z;cases z) (vs:=(ra++[x]).map V.ref);exact⟨a,λj e h=>k j e (u.al j e h),ak,by rw[aF u.nb.symm];exact u.eb,by rw[aF u.ng.symm];exact u.eg,u.tr,u.tb,u.tg,u.nb,u.ng,u.nn,u.l6⟩
theorem sV.aeO(u:sV CR CW CH τ H r l tl tls n sm iC ns S0 es rl bl gl ra ba ga)(x:Addr):sV CR CW CH τ (upd H bl (.lst ((ba++[x]).map V.ref))) r l tl tls n sm iC ns S0 es rl bl gl ra (ba++[x]) ga:=by
 obtain⟨s,c,a,k⟩:=u.grow u.tb u.eb (by intro b z;cases z) (vs:=(ba++[x]).map V.ref);exact⟨a,λj e h=>k j e (u.al j e h),by rw[aF u.nb];exact u.er,ak,by rw[aF u.nn.symm];exact u.eg,u.tr,u.tb,u.tg,u.nb,u.ng,u.nn,u.l6⟩
theorem sV.aeN(u:sV CR CW CH τ H r l tl tls n sm iC ns S0 es rl bl gl ra ba ga)(x:Addr):sV CR CW CH τ (upd H gl (.lst ((ga++[x]).map V.ref))) r l tl tls n sm iC ns S0 es rl bl gl ra ba (ga++[x]):=by
 obtain⟨s,c,a,k⟩:=u.grow u.tg u.eg (by intro b z;cases z) (vs:=(ga++[x]).map V.ref);exact⟨a,λj e h=>k j e (u.al j e h),by rw[aF u.ng];exact u.er,by rw[aF u.nn];exact u.eb,ak,u.tr,u.tb,u.tg,u.nb,u.ng,u.nn,u.l6⟩
theorem sV.more(u:sV CR CW CH τ H r l tl tls n sm iC ns S0 es rl bl gl ra ba ga){e:El}(h:E55 CR CW CH es.length τ H S0 l n ns e)(b:es.length<6):sV CR CW CH τ H r l tl tls n sm iC ns S0 (es++[e]) rl bl gl ra ba ga:=
 ⟨u.b,λj x a=>by
   rcases lV a with a|⟨c,rfl⟩
   .exact u.al j x a
   .rw[c];exact h,u.er,u.eb,u.eg,u.tr,u.tb,u.tg,u.nb,u.ng,u.nn,by rw[abf];exact b⟩
end
theorem vH{α β:Type}{f:α->β}{a:List α}{e e':α}(h:a[j]?=some e)(q:f e'=f e):(a.set j e').map f=a.map f:=by
 rw[List.map_set,q];refine List.ext_getElem? λk=>?_
 by_cases z:j=k
 .subst z
  rw[List.getElem?_set_self (by rw[aae];exact(aak.mp h).1),aam,h];rfl
 .rw[List.getElem?_set_ne z]
inductive Iu(K:zzy)(vs:List V)(H:Hp)(Q:VK)(dX:XK):Prop|m:∀(a:Addr)(ns:List Int),vs=[.ref a]->bG K H a (ns.map V.int)->ns.length<=63->(∀H',Q (.bl true) H')->Iu K vs H Q dX
theorem abH(F:fZ K "law" "law" Tz f fd)(ZW:FnAt P w K mg base 1 "_law_reel" ["script"] (Fx K))(b_:FnAt P w K mg base 1 "_law_draw" ["reel","many"] (kO K))(Mw:FnAt P w K mg base 5 "_law_program" ["reel"] (Ky K))(Mx:FnAt P w K mg base 2 "_law_numbers" ["reel","many"] (Kz K))(wu:pI P w K mg base 7 ao "Works" ["self","program","cells"] [] (λvs H Q _=>mH ao aq bW K vs H Q λ_ _ _=>False))(v5:FnAt P w K mg base 9 "_law_run" ["reel","works","hands","turns"] (Fw ao aq K))(WY:FnAt P w K mg base 3 "_law_notes" ["web","few"] (Tp K))(Cv:pI P w K mg base 10 aC "Replay" ["self","works","record"] [] (λvs H Q _=>uV aC ao aq bI K vs H Q λ_ _ _=>False))(Dj:MethAt P w K mg base 12 aC "twin" ["self"] (za aC ao aq K))(jg:MethAt P w K mg base 9 ao "twin" ["self"] (wR ao aq K))(ZV:FnAt P w K mg base 10 "_law_step" ["one","touches","some","gone","hand"] (uR aC ao aq K))(RG:FnAt P w K mg base 9 "_law_beside" ["works","gone"] (uZ ao aq K))(PN:FnAt P w K mg base 7 "_law_told" ["one","touches","some","gone"] (uQ aC ao aq K))(rG:MethAt P w K mg base 10 aC "works" ["self"] (uT aC ao aq K))(rF:MethAt P w K mg base 3 ao "__eq__" ["self","other"] (Ny ao aq K))(eY:MethAt P w K mg base 1 ao "counts" ["self"] (lB ao aq K))(aK:cW K aC)(aN:dz K ao)(Bt:nR mg):bR P w K mg base iB 13 f fd ["script"] (Iu K):=by
 refine F.ok gF (λvs H Q E h=>?_) (λx8 A t0 s H vs Q E S h=>?_)
 .obtain⟨a,ns,rfl,_⟩:=h
  rfl
 .obtain⟨I,Vm,rfl,g0,h4,k⟩:=h
  have qX:=S.units
  refine⟨_,(aB (bH (i:=1) gF.nd rfl (Or.inl rfl) (bN ZW (S.mono (by decide)) (by rfl) (aj (pv 0) au)))
   (aB (bH (i:=2) gF.nd rfl (Or.inl rfl) (bN Mw (S.mono (by decide)) (by rfl) (aj (pv 1) au)))
   (aB (bH (i:=3) gF.nd rfl (Or.inl rfl) (bN Mx (S.mono (by decide)) (by rfl) (aj (pv 1) (aj (aO (aX (K:=K) rfl) (pv 2) aG (λ_ _=>rfl)) au))))
   (aB (bH (i:=4) gF.nd rfl (Or.inl rfl) (aV (aW (K:=K) rfl) (by rfl) Bt.dJ cG (aj (aO (aX (K:=K) rfl) (pv 2) aG (λ_ _=>rfl)) au)))
   (aB (bH (i:=5) gF.nd rfl (Or.inl rfl) (bY iR (bN b_ (S.mono (by decide)) (by rfl) (aj (pv 1) (aj aG au))) (aV (Es rfl) (by rfl) Bt.aaD WD (aj (aV (aW (K:=K) rfl) (by rfl) Bt.dJ cG (aj (pv 0) au)) (aj aG au)))))
   (aB (pq (bN v5 (S.mono (by decide)) (by rfl) (aj (pv 1) (aj (jT wu (S.mono (by decide)) (by rfl) (aj (pv 2) (aj (pv 3) au))) (aj (pv 4) (aj (pv 5) au))))) (Gm (K:=K) (n:=2) rfl rfl (oh (bK (i:=6) gF.nd rfl (Or.inl rfl)) (oh (bK (i:=7) gF.nd rfl (Or.inl rfl)) Gk))))
   (aB (bH (i:=8) gF.nd rfl (Or.inl rfl) (bN WY (S.mono (by decide)) (by rfl) (aj (pv 6) (aj mR au))))
   (aB (bH (i:=9) gF.nd rfl (Or.inl rfl) (dY (aj (dZ rfl (N:=["row"]) (own:=["row"]) (caps:=[]) (bB.of (by kernel_rfl)) (dg (K:=K) rfl (pv 7)) (λ_ _ _ _=>(bK (i:=0) (show List.Nodup (["row"]:List Str) by decide +kernel) rfl (Or.inl rfl))) (λ_ _ _ _=>dF) (λ_ _ _ _=>(aV (aW (K:=K) rfl) (by rfl) Bt.dJ cG (aj (pv 0) au)))) (aj (Ut (K:=K) rfl (pv 8) (Us Ku aG)) au))))
   (aB (bH (i:=10) gF.nd rfl (Or.inl rfl) (cJ (aj (jT Cv (S.mono (by decide)) (by rfl) (aj (jT wu (S.mono (by decide)) (by rfl) (aj (pv 2) (aj (pv 3) au))) (aj (pv 9) au))) au)))
   (aB (cN (Od (K:=K) rfl PySem.F.plainAttrs_list PySem.F.slot_list_clear PySem.F.type_list_clear Jj (aO (aX (K:=K) rfl) (pv 9) aG (λ_ _=>rfl))))
   (aB (cN (Od (K:=K) rfl PySem.F.plainAttrs_list PySem.F.slot_list_clear PySem.F.type_list_clear Jj (aO (aX (K:=K) rfl) (pv 9) aG (λ_ _=>rfl))))
   (aB (bH (i:=11) gF.nd rfl (Or.inl rfl) (cJ (aj (jT wu (S.mono (by decide)) (by rfl) (aj (pv 2) (aj (pv 3) au))) au)))
   (aB (bH (i:=12) gF.nd rfl (Or.inl rfl) (cJ (aj (bY K7 (cJ (aj aG au)) (pv 4)) au)))
   (aB (iQ PassesOwn.never rfl (cP (by rfl) Bt.dI (aj (bY iR aG (aV (Es rfl) (by rfl) Bt.aaD WD (aj (aV (aW (K:=K) rfl) (by rfl) Bt.dJ cG (aj (pv 0) au)) (aj aG au)))) au)) (bK (i:=13) gF.nd rfl (Or.inl rfl))
   (aB (bH (i:=14) gF.nd rfl (Or.inl rfl) (bN b_ (S.mono (by decide)) (by rfl) (aj (pv 1) (aj aG au))))
   (aB (bH (i:=15) gF.nd rfl (Or.inl rfl) (bN b_ (S.mono (by decide)) (by rfl) (aj (pv 1) (aj (aV (aW (K:=K) rfl) (by rfl) Bt.dJ cG (aj (pv 10) au)) au))))
   (aB (bH (i:=16) gF.nd rfl (Or.inl rfl) (bN b_ (S.mono (by decide)) (by rfl) (aj (pv 1) (aj (aV (aW (K:=K) rfl) (by rfl) Bt.dJ cG (aj (pv 10) au)) au))))
   (aB (cj (PW.pt (ud (bD eV (pv 14) aG (bA _)) (rY (bD ou (aV (aW (K:=K) rfl) (by rfl) Bt.dJ cG (aj (pv 10) au)) aG (bA _))))) (aB (cN (dO (K:=K) rfl (pv 10) (aj (cu Dj aK.cls (S.mono (by decide)) (aO (aL (K:=K) rfl) (pv 10) (pv 15) (λ_ _=>rfl))) au)))
   (aB (cN (dO (K:=K) rfl (pv 11) (aj (cu jg aN.cls (S.mono (by decide)) (aO (aL (K:=K) rfl) (pv 11) (pv 15) (λ_ _=>rfl))) au)))
   (aJ (cN (dO (K:=K) rfl (pv 12) (aj (dB (cC (K:=K) rfl) (by rfl) Bt.iD fO (aj (aO (aL (K:=K) rfl) (pv 12) (pv 15) (λ_ _=>rfl)) au)) au)))))) (aJ (cj (fP (dH (bN ZV (S.mono (by decide)) (by rfl) (aj (aO (aL (K:=K) rfl) (pv 10) (pv 15) (λ_ _=>rfl)) (aj (pv 7) (aj (pv 8) (aj (aO (aL (K:=K) rfl) (pv 12) (pv 15) (λ_ _=>rfl)) (aj (bN b_ (S.mono (by decide)) (by rfl) (aj (pv 1) (aj (pv 4) au))) au)))))))) (aJ (bw mR)) bJ)))
   (aB (cN (bN RG (S.mono (by decide)) (by rfl) (aj (aO (aL (K:=K) rfl) (pv 11) (pv 15) (λ_ _=>rfl)) (aj (aO (aL (K:=K) rfl) (pv 12) (pv 15) (λ_ _=>rfl)) au))))
   (aJ (cj (PW.pt (pN (fP (dH (bN PN (S.mono (by decide)) (by rfl) (aj (aO (aL (K:=K) rfl) (pv 10) (pv 16) (λ_ _=>rfl)) (aj (pv 7) (aj (pv 8) (aj (aO (aL (K:=K) rfl) (pv 12) (pv 16) (λ_ _=>rfl)) au))))))) (nJ (fP (bD (UJ rF (S.mono (by decide))) (cu rG aK.cls (S.mono (by decide)) (aO (aL (K:=K) rfl) (pv 10) (pv 16) (λ_ _=>rfl))) (aO (aL (K:=K) rfl) (pv 11) (pv 16) (λ_ _=>rfl)) (bA _)))))) (aJ (bw mR)) bJ))))))))
   (aB (iQ PassesOwn.never rfl (cP (by rfl) Bt.dI (aj (aV (aW (K:=K) rfl) (by rfl) Bt.dJ cG (aj (pv 10) au)) au)) (bK (i:=15) gF.nd rfl (Or.inl rfl))
   (aB (cj (fP (dH (bN PN (S.mono (by decide)) (by rfl) (aj (aO (aL (K:=K) rfl) (pv 10) (pv 15) (λ_ _=>rfl)) (aj (pv 7) (aj (pv 8) (aj (aO (aL (K:=K) rfl) (pv 12) (pv 15) (λ_ _=>rfl)) au))))))) (aJ (bw mR)) bJ)
   (aJ (cj (PW.pt (pN (fP (bD (UJ rF (S.mono (by decide))) (cu rG aK.cls (S.mono (by decide)) (aO (aL (K:=K) rfl) (pv 10) (pv 15) (λ_ _=>rfl))) (aO (aL (K:=K) rfl) (pv 11) (pv 15) (λ_ _=>rfl)) (bA _))) (nJ (bD (Gn (K:=K) rfl qX) (cu eY aN.cls (S.mono (by decide)) (aO (aL (K:=K) rfl) (pv 11) (pv 15) (λ_ _=>rfl))) (aO (aL (K:=K) rfl) (pv 12) (pv 15) (λ_ _=>rfl)) (bA _))))) (aJ (bw mR)) bJ))))
   (aJ (bw mR))))))))))))))))),?_⟩
  refine fu λqJ Y=>?_;refine⟨_,Z,I,Vm,Z,g0,h4,λr H1 v2 R1 s1 h3=>?_⟩
  obtain⟨f1,T1,l9⟩:∃f1,RT f1 H1 r /\ ∀o,H I=some o->H1 I=some o/\f1 I=[9]:=by
   cases e:H I with
   | none=>exact⟨λ_=>[],⟨R1,λx o e t=>ac' rfl t,λ_ _=>rfl⟩,λo z=>by cases z⟩
   | some o=>exact⟨_,RT.new R1 [I] [9] (λx hx=>by
      have:=acQ.mp hx;subst this;exact⟨⟨o,s1 _ _ e⟩,aA e v2,h3 _ _ e⟩),λo' z=>⟨s1 _ _ (by rw[e];exact z),by simp⟩⟩
  try dsimp only[bU]
  subst Y;refine fu λqJ Y=>?_;refine⟨_,Z,r,f1,Z,T1,λp PL C b m U H3 g3 p0 p8 m0 t9 x5 T3 c0 n3=>?_⟩
  try dsimp only[bU]
  subst Y;refine fu λqJ Y=>?_;refine⟨_,Z,_,Z,_,_,_,_,Z,Z,cD.of g3.ep,Z,r,U,m,Z,T3,t9,λnv ns b2 H4 i7 T4 b7 f9=>?_⟩;have p2:∀i,Mv i U H3 b2 H4:=λi=>⟨λx o e t=>⟨f9 _ _ e (T3.off x o e (by rcases t with t|t;rw[t];simp;intro z;rw[z] at t;cases t)).1,b7 x o e⟩,λx xs e=>T3.R.tups f9 _ _ e⟩;have g4:=g3.mv (p2 0)
  have c3:∀o,H I=some o->H4 I=some o/\b2 I=[9]:=λo e=>by
   obtain⟨e1,t1⟩:=l9 o e;have e3:=n3 _ _ e1 (T1.off _ _ e1 (by rw[t1];simp)).1;have t3:=(c0 _ _ e1).trans t1;exact⟨f9 _ _ e3 (T3.off _ _ e3 (by rw[t3];simp)).1,(b7 _ _ e3).trans t3⟩
  clear p2 g3 T3 c0 b7 n3 f9 T1 R1 s1 l9 h3
  try dsimp only[bU]
  subst Y;refine fu λqJ Y=>?_;refine⟨_,Z,_,_,_,_,Z,Z,cD.of g4.ep,Z,PL,_,Z,.inl (bG.of g4.eL),?_⟩;rw[aae];dsimp only[bU];have c5:kJ (jY m ns b):=Q7 i7.1.2
  have l0:(jY m ns b).hs.length=C.length:=by
   show (b.map _).length=_;rw[aae,g4.len]
  have i3:C.length<=8:=by rw[g4.len];exact p8
  have x3:0<C.length:=by rw[g4.len];exact p0
  try dsimp only[bU]
  subst Y;refine fu λqJ Y=>?_;refine⟨_,Z,r,13,Z,T4.R,by decide,by decide,λy H5 y0 y1 R5 k5=>⟨_,Z,I,_,Z,.inl (Ir g0 λo e=>T4.keep k5 (c3 o e).1 (by rw[(c3 o e).2];simp)),_,_,Z,_,_,Z,Z,?_⟩⟩;obtain⟨mm,em,t8⟩:∃mm:Nat,(y+(if (30:Int)<((Vm.map V.int).length:Int) then 30 else ((Vm.map V.int).length:Int)))=mm/\mm<=50:=⟨(y+(if (30:Int)<((Vm.map V.int).length:Int) then 30 else ((Vm.map V.int).length:Int))).toNat,by split<;>lia,by split<;>lia⟩;have T5:=T4.draw k5 R5;have d5:=Dr.draw T4 k5;have g5:=g4.mv (i:=0) d5.mv;have i6:=i7.mv (i:=0) d5.mv;have l8:∀o,H I=some o->H5 I=some o/\b2 I=[9]:=λo e=>⟨T4.keep k5 (c3 o e).1 (by rw[(c3 o e).2];simp),(c3 o e).2⟩;clear g4 i7 T4 k5 d5 c3;rw[show V.int (y+(if (30:Int)<((Vm.map V.int).length:Int) then 30 else ((Vm.map V.int).length:Int)))=V.int (mm:Int) from congrArg V.int em];dsimp only[bU]
  try dsimp only[bU]
  subst Y;refine fu λqJ Y=>?_;refine⟨_,Z,_,Z,_,Z,Gx (i:=1) (τ:=b2) g5.h (by lia) (by lia) T5.un (by decide) i6.h λa9 W H6 w6 Ql s6=>⟨_,Z,_,Z,?_⟩⟩;have T6:=T5.made s6 Ql w6.un;have g6:=g5.mv (Mv.tags (i:=0) s6 Ql);have m9:=i6.mv (Mv.tags (i:=0) s6 Ql);refine⟨r,1,9,a9,W,jY m ns b,mm,?_,T6,w6,c5,by show 0<=100;lia,t8,by lia,by decide,by decide,λt a tl O l S1 a7 H7 et ru ln=>?_⟩
  .rw[l0];rfl
  have f7:∀o,H I=some o->H7 I=some o/\a7 I=[9]:=λo e=>by
   obtain⟨e5,t5⟩:=l8 o e;have e6:=s6 _ _ e5;have t6:=(Ql _ _ e5).trans t5;exact⟨ru.fr.keep _ _ e6 (by rw[t6];simp) (by rw[t6];simp),(ru.fr.tg _ _ e6).trans t6⟩
  have i8:Mv 0 a9 H6 a7 H7:=⟨λx o e t=>⟨ru.fr.keep _ _ e (by rcases t with t|t;rw[t];simp;intro z;rw[z] at t;cases t) (by rcases t with t|t;rw[t];simp;rw[t];simp),ru.fr.tg _ _ e⟩,ru.fr.tup⟩;have g7:=g6.mv i8;have m4:=m9.mv i8;have R0:=ru.R;have Z2:=ru.Z2;have hn:∀x∈l,x.k<C.length:=λx hx=>by rw[←l0];exact aac R0 x hx
  have i9:l.length<=50:=by lia
  have T7:=ru.T;have o6:=ru.ea;have j0:=ru.et;have k8:=ru.tt;have t4:O.length=C.length:=by rw[←l0];exact ru.nt
  have m1:∀k p,O[k]?=some p->a7 p=[9] /\ ∃us,H7 p=some (.lst us)/\aR H7 us ((l.filter λt=>t.k=k).map Ij):=λk p h=>by
   obtain⟨t,_,_,q⟩:=ru.ps k p h;exact⟨t,q⟩
  clear g6 m9 T6 w6 ru ln em l8 s6 Ql g5 i6 T5;refine⟨t,_,Z,cD.of et,Z,_,_,Z,_,_,Z,Z,?_⟩;dsimp only[bU]
  try dsimp only[bU]
  subst Y;refine fu λqJ Y=>?_;refine⟨_,Z,a,l.map gj,true,Z,o6,by rw[aae];exact i9,λsm seq H8 i1 s8 N8 x4 mem=>?_⟩;have N0:Fe l true seq:=λx=>by rw[mem x,aae]
  obtain⟨Vl,eN,dN⟩:=N8;have T8:=T7.claim (t:=[9]) s8 i1 ⟨_,eN⟩;have CG:∀x o,H7 x=some o->aQ a7 sm [9] x=a7 x:=λx o e=>aU (aA e i1)
  have b8:B55 (aQ a7 sm [9]) H8 r l tl O C.length sm seq:=by
   refine⟨T8,s8 _ _ j0,(CG _ _ j0).trans k8,t4,λk p h=>?_,⟨Vl,eN,dN⟩,bF⟩;obtain⟨t,us,e,d⟩:=m1 k p h;exact⟨(CG _ _ e).trans t,us,s8 _ _ e,aR.keep s8.tups _ (vL _) d⟩
  have g8:=g7.mv (Mv.tags (i:=0) s8 CG);have i5:=m4.mv (Mv.tags (i:=0) s8 CG);have d1:∀o,H I=some o->H8 I=some o/\aQ a7 sm [9] I=[9]:=λo e=>⟨s8 _ _ (f7 o e).1,(CG _ _ (f7 o e).1).trans (f7 o e).2⟩;clear T7 o6 j0 k8 m1 g7 m4 f7 et T8 CG mem eN dN s8 i1 i8;generalize aQ a7 sm [9]=a6 at b8 d1 g8 i5;dsimp only[bU]
  try dsimp only[bU]
  subst Y;refine fu λqJ Y=>?_;refine⟨_,Z,tl,Z,⟨_,bG.of b8.et⟩,λD hD=>?_⟩;refine jV (K:=K) (λj=>some (.int (kc l j))) hD (bG.of b8.et) (by rw[aae,b8.nt];lia) (λj v Ha G F hj sa kG kF=>?_) (λH9 s9 e9=>?_)
  .rw[aam] at hj
   obtain⟨p,ep,rfl⟩:∃p,O[j]?=some p/\v=.ref p:=by
    cases e:O[j]? with
    | none=>rw[e] at hj;cases hj
    | some p=>rw[e] at hj;exact⟨p,Z,(abe hj).symm⟩
   obtain⟨_,us,eu,du⟩:=b8.ps j p ep;dsimp only[bU,yK];rw[ac_ rfl];refine⟨_,Z,p,us,Z,.inl (bG.of (sa _ _ eu)),?_⟩;rw[show us.length=kc l j by rw[du.length,aae];rfl];exact kF _ Ha (Same.refl _) rfl
  have h2:H9 D=some (.lst ((d_ l C.length).map V.int)):=by
   rw[e9,aae,b8.nt];unfold d_;rw[acV,List.filterMap_eq_map'];rfl
  obtain⟨Vl,eN,dN⟩:=b8.N;refine⟨_,Z,_,Z,sm,_,Z,Z,bG.of (s9 _ _ eN),λq hq=>?_⟩;have sq:=aH (o:=HO.lst Vl.reverse) hq;refine⟨(by show 2<=sizeLine;decide),λhp n8=>?_⟩;have sh:=aH (o:=HO.tup [V.ref D,V.ref q]) n8;have c4:=(s9.trans sq).trans sh;have Dq:D≠q:=aA h2 hq
  have RC:RecAt (upd (upd H9 q (.lst Vl.reverse)) hp (.tup [V.ref D,V.ref q])) hp D q (d_ l C.length) seq.reverse:=by
   refine⟨ak,sh _ _ (sq _ _ h2),Vl.reverse,sh _ _ ak,?_⟩;rw[List.map_reverse];exact JQ (aR.keep c4.tups _ (cH _ qW _) dN)
  have c8:∀x o,H8 x=some o->aQ (aQ a6 D [8]) q [8] x=a6 x:=λx o e=>by
   rw[aU (aA (s9 _ _ e) hq),aU (aA e hD)]
  have T9:=(b8.T.claim (t:=[8]) s9 hD ⟨_,h2⟩).claim (t:=[8]) (sq.trans sh) hq ⟨_,sh _ _ ak⟩;have h9:aQ (aQ a6 D [8]) q [8] D=[8]:=by rw[aU Dq];exact bF
  have h6:aQ (aQ a6 D [8]) q [8] q=[8]:=bF;have b9:=b8.made c4 c8 T9.un;have g9:=g8.mv (Mv.tags (i:=0) c4 c8);have d2:=i5.mv (Mv.tags (i:=0) c4 c8);have c2:∀o,H I=some o->(upd (upd H9 q (.lst Vl.reverse)) hp (.tup [V.ref D,V.ref q])) I=some o/\aQ (aQ a6 D [8]) q [8] I=[9]:=λo e=>⟨c4 _ _ (d1 o e).1,(c8 _ _ (d1 o e).1).trans (d1 o e).2⟩;clear g8 i5 d1 s9 e9 eN dN sq sh n8 hq hD h2 c8 c4 b8;generalize upd (upd H9 q (.lst Vl.reverse)) hp (.tup [V.ref D,V.ref q])=Ha at RC T9 b9 g9 d2 c2 ⊢;generalize aQ (aQ a6 D [8]) q [8]=k6 at T9 h9 h6 b9 c2 g9 d2;dsimp only[bU]
  try dsimp only[bU]
  subst Y;refine fu λqJ Y=>?_;refine⟨_,Z,_,Z,Gx (i:=2) (τ:=k6) g9.h (by lia) (by lia) T9.un (by decide) d2.h λp6 W2 Hb w2 l5 sa=>⟨_,Z,λo dx ho o1 n1=>?_⟩⟩;have n7:(upd Hb dx (.own o)) o=none:=by rw[aF (Ne.symm n1)];exact ho
  have c9:Same Hb (upd (upd Hb dx (.own o)) o (.ins aC dx [])):=(aH o1).trans (aH n7);have p3:Fe l true seq.reverse:=λx=>List.mem_reverse.trans (N0 x);have HS:=abg i3 i9 (seq:=seq.reverse) (by rw[List.length_reverse];lia) hn p3;refine⟨2,20,21,p6,o,dx,hp,D,q,W2,jY m ns b,d_ l C.length,seq.reverse,Z,ak,w2.un o ho,w2.same c9,c5,by show m<=100;lia,RC.same (sa.trans c9),HS,by decide,by decide,by decide,by decide,λhl a8 R M Hf eo pm Nv rp l4 n2=>⟨Z,?_⟩,λbad=>ac' (by rw[g_,l0]) bad⟩;have sf:Same Ha Hf:=λx u e=>n2 _ _ (c9 _ _ (sa _ _ e)) (aA (sa _ _ e) ho);have tf:∀x u,Ha x=some u->a8 x=k6 x:=λx u e=>(l4 x u (c9 _ _ (sa _ _ e)) (aA (sa _ _ e) ho)).trans (l5 _ _ e);have bf:=b9.made sf tf rp.w.un;rw[g_] at rp;have gf:=g9.mv (Mv.tags (i:=0) sf tf);have m3:=d2.mv (Mv.tags (i:=0) sf tf);have f5:∀o,H I=some o->Hf I=some o/\a8 I=[9]:=λo e=>⟨sf _ _ (c2 o e).1,(tf _ _ (c2 o e).1).trans (c2 o e).2⟩;have o4:=sf _ _ RC.1;have k4:=sf _ _ RC.2.1;have l7:=(tf _ _ RC.2.1).trans h9;obtain⟨s7,j3,_⟩:=RC.2.2;have j2:=sf _ _ j3;have k9:=(tf _ _ j3).trans h6;have m2:M.Perm seq:=pm.trans (List.reverse_perm _);rw[←eo];clear sf tf b9 g9 d2 c2 RC j3 w2 l5 sa c9 n7 ho o1 n1 l4 n2 HS p3 T9 h9 h6 eo hl pm;refine⟨(by show 1<=sizeLine;decide),λL g1=>?_⟩;have sR:=aH (o:=HO.lst [V.ref R.o]) g1;have tR:∀x o,Hf x=some o->aQ a8 L [10] x=a8 x:=λx o e=>aU (aA e g1);have eR:(upd Hf L (.lst [V.ref R.o])) L=some (.lst ([R.o].map V.ref)):=ak;have Tg:=bf.T.claim (t:=[10]) sR g1 ⟨_,eR⟩;have f2:aQ a8 L [10] L=[10]:=bF;have bg:=bf.made sR tR Tg.un;have rg:=rp.mv (Mv.tags (i:=20) sR tR) (Mv.tags (i:=21) sR tR) Tg.un;have gg:=gf.mv (Mv.tags (i:=0) sR tR);have f8:=m3.mv (Mv.tags (i:=0) sR tR);have c1:∀o,H I=some o->(upd Hf L (.lst [V.ref R.o])) I=some o/\aQ a8 L [10] I=[9]:=λo e=>⟨sR _ _ (f5 o e).1,(tR _ _ (f5 o e).1).trans (f5 o e).2⟩;have h1:=sR _ _ o4;have e4:=sR _ _ k4;have h8:=(tR _ _ k4).trans l7;have j1:=sR _ _ j2;have h5:=(tR _ _ j2).trans k9;clear sR tR bf rp gf m3 f5 o4 k4 l7 j2 k9 g1;generalize upd Hf L (.lst [V.ref R.o])=Hg at eR Tg bg rg gg f8 c1 h1 e4 j1 ⊢;generalize aQ a8 L [10]=c6 at Tg f2 bg rg gg f8 c1 h8 h5;dsimp only[bU]
  try dsimp only[bU]
  subst Y;refine fu λqJ Y=>?_;refine⟨_,Z,_,_,_,_,Z,Z,cD.of h1,Z,.inl ⟨Z,_,bG.of e4⟩,D,_,Z,Z,e4,?_⟩;have f4:jH 8 c6 Hg (upd Hg D (.lst [])):=jH.set (by rw[h8];rfl) e4 (by intro xs z;cases z);have d4:(upd Hg D (.lst [])) q=some (.lst s7):=by rw[aF Dq.symm];exact j1
  have k1:=f4.tup _ _ h1;generalize upd Hg D (.lst [])=Hh at f4 d4 k1 ⊢
  try dsimp only[bU]
  subst Y;refine fu λqJ Y=>?_;refine⟨_,Z,_,_,_,_,Z,Z,cD.of k1,Z,.inl ⟨Z,_,bG.of d4⟩,q,_,Z,Z,d4,?_⟩;have st:jH 8 c6 Hg (upd Hh q (.lst [])):=f4.trans (jH.set (by rw[h5];rfl) d4 (by intro xs z;cases z));have Th:=Tg.stp st;have bh:=bg.stp (by decide) st;have rh:=rg.mv (Mv.cU st (by decide) (by decide)) (Mv.cU st (by decide) (by decide)) Th.un;have gh:=gg.mv (i:=0) (Mv.cU st (by decide) (by decide));have i4:=f8.mv (i:=0) (Mv.cU st (by decide) (by decide));have d7:=st.keep _ _ eR (by rw[f2];decide);have d0:∀o,H I=some o->(upd Hh q (.lst [])) I=some o/\c6 I=[9]:=λo e=>⟨st.keep _ _ (c1 o e).1 (by rw[(c1 o e).2];decide),(c1 o e).2⟩;clear f4 st d4 k1 Tg bg rg gg f8 eR c1 h1 e4 j1 h8 h5 Dq;generalize upd Hh q (.lst [])=Hi at Th bh rh gh i4 d7 d0 ⊢;dsimp only[bU]
  try dsimp only[bU]
  subst Y;refine fu λqJ Y=>?_;refine⟨_,Z,_,Z,Gx (i:=22) (τ:=c6) gh.h (by lia) (by lia) Th.un (by decide) i4.h λf0 W Hj wj l3 sj=>⟨(by show 1<=sizeLine;decide),λbl d3=>?_⟩⟩;have sB:=aH (o:=HO.lst [V.ref W.o]) d3;have s2:=sj.trans sB;have t2:∀x o,Hi x=some o->aQ f0 bl [10] x=c6 x:=λx o e=>(aU (aA (sj _ _ e) d3)).trans (l3 _ _ e);have eB:(upd Hj bl (.lst [V.ref W.o])) bl=some (.lst ([W.o].map V.ref)):=ak;have b1:=wj.un.claim (t:=[10]) sB (p:=bl) ⟨_,eB⟩;have wk:=wj.mv (Mv.claim (p:=bl) (t:=[10]) sB d3) b1;have bk:=bh.made s2 t2 b1;have rk:=rh.mv (Mv.tags (i:=20) s2 t2) (Mv.tags (i:=21) s2 t2) b1;have d6:=s2 _ _ d7;have h7:=(t2 _ _ d7).trans f2;have i0:aQ f0 bl [10] bl=[10]:=bF;have f6:∀o,H I=some o->(upd Hj bl (.lst [V.ref W.o])) I=some o/\aQ f0 bl [10] I=[9]:=λo e=>⟨s2 _ _ (d0 o e).1,(t2 _ _ (d0 o e).1).trans (d0 o e).2⟩;have nb:L≠bl:=aA (sj _ _ d7) d3;clear sB s2 t2 wj bh rh gh i4 d7 d0 sj l3 d3 Th f2;generalize upd Hj bl (.lst [V.ref W.o])=Hk at eB b1 wk bk rk d6 f6 ⊢;generalize aQ f0 bl [10]=e8 at b1 wk bk rk h7 i0 f6;dsimp only[bU]
  try dsimp only[bU]
  subst Y;refine⟨(by show 1<=sizeLine;decide),λq1 n6=>⟨_,Z,?_⟩⟩;have sq:=aH (o:=HO.lst [V.int 0]) n6;refine⟨q1,_,_,Z,Z,ak,by lia,by lia,by rw[sizeLine_eq];simp;lia,λg hg=>?_⟩;rw[acd,rep0,List.map_replicate];have sg:=aH (o:=HO.lst (List.replicate C.length (V.int 0))) hg;refine⟨(by show 1<=sizeLine;decide),λgl h0=>?_⟩;have sl:=aH (o:=HO.lst [V.ref g]) h0;have s3:=(sq.trans sg).trans sl;have n0:g≠gl:=aA ak h0;have n9:Hk g=none:=sq.free hg;have Zi:Hk gl=none:=sq.free (sg.free h0);have t3:∀x o,Hk x=some o->aQ (aQ e8 g [23]) gl [10] x=e8 x:=λx o e=>(aU (aA e Zi)).trans (aU (aA e n9))
  have e0:d_ (pick l []) C.length=List.replicate C.length 0:=by
   have:pick l []=[]:=Z;rw[this];refine List.ext_getElem? λk=>?_;unfold d_
   by_cases z:k<C.length<;>simp[z,kc]
  have o5:(upd (upd (upd Hk q1 (.lst [V.int 0])) g (.lst (List.replicate C.length (V.int 0)))) gl (.lst [V.ref g])) g=some (.lst ((d_ (pick l []) C.length).map V.int)):=by rw[e0,List.map_replicate];exact sl _ _ ak
  have k2:(upd (upd (upd Hk q1 (.lst [V.int 0])) g (.lst (List.replicate C.length (V.int 0)))) gl (.lst [V.ref g])) gl=some (.lst ([g].map V.ref)):=ak;have yp:=(b1.claim (t:=[23]) (sq.trans sg) (p:=g) ⟨_,ak⟩).claim (t:=[10]) sl (p:=gl) ⟨_,k2⟩;have C0:C55 (jY m ns b) S1 l C.length seq M:=⟨R0,Z2,hn,N0,m2,Nv,i3,i9,l0,Z,c5,by show m<=100;lia,by lia⟩
  have U0:sV aC ao aq (aQ (aQ e8 g [23]) gl [10]) (upd (upd (upd Hk q1 (.lst [V.int 0])) g (.lst (List.replicate C.length (V.int 0)))) gl (.lst [V.ref g])) r l tl O C.length sm seq M (jY m ns b) [⟨R,W,jY m ns b,jY m ns b,[],g⟩] L bl gl [R.o] [W.o] [g]:=by
   refine⟨bk.made s3 t3 yp,λj e h=>?_,s3 _ _ d6,s3 _ _ eB,k2,(t3 _ _ d6).trans h7,(t3 _ _ eB).trans i0,bF,nb,aA d6 Zi,aA eB Zi,by show 1<=6;decide⟩;have:j=0:=by have:=(aak.mp h).1;simpa using this
   subst this;cases h;refine⟨⟨?_,o5,by rw[aU n0];exact bF,.nil,Z⟩,wk.mv (Mv.tags (i:=22) s3 t3) yp⟩;show jJ aC ao aq 20 21 _ _ R (jY m ns b) (d_ l C.length) M (d_ (pick l []) C.length);rw[e0];exact rk.mv (Mv.tags (i:=20) s3 t3) (Mv.tags (i:=21) s3 t3) yp
  have i2:∀o,H I=some o->(upd (upd (upd Hk q1 (.lst [V.int 0])) g (.lst (List.replicate C.length (V.int 0)))) gl (.lst [V.ref g])) I=some o:=λo e=>s3 _ _ (f6 o e).1;clear s3 t3 e0 o5 k2 yp sq sg sl n6 hg h0 n9 Zi n0 eB b1 wk bk rk d6 f6 h7 i0 nb m2 Nv N0;generalize aQ (aQ e8 g [23]) gl [10]=p5 at U0;generalize upd (upd (upd Hk q1 (.lst [V.int 0])) g (.lst (List.replicate C.length (V.int 0)))) gl (.lst [V.ref g])=Hl at U0 i2 ⊢;dsimp only[bU];obtain⟨N,eN,x9⟩:∃N:Nat,(16+(if (63:Int)<((Vm.map V.int).length:Int) then 63 else ((Vm.map V.int).length:Int)))=N/\N<=80:=⟨(16+(if (63:Int)<((Vm.map V.int).length:Int) then 63 else ((Vm.map V.int).length:Int))).toNat,by split<;>lia,by split<;>lia⟩;refine⟨_,Z,I,_,Z,.inl (Ir g0 λo e=>i2 o e),_,_,Z,_,_,Z,Z,(N:Int),congrArg (λz=>[V.int z]) eN,by lia,by lia,?_⟩;rw[acd];clear i2 eN g0 h4
  refine gD (lo:=0) (n:=N) (λj σ Hc=>∃(b6 b5 b4 b3:Option V) (a5:Tg) (c:List El),σ=[some (.ref I),some (.ref r),some (.ref p),some nv,some (.int C.length),some (.int mm),some (.ref a),some (.ref tl),some (.ref sm),some (.ref hp),some (.ref L),some (.ref bl),some (.ref gl),b6,b5,b4,b3]/\sV aC ao aq a5 Hc r l tl O C.length sm seq M (jY m ns b) c L bl gl (c.map λe:El=>e.R.o) (c.map λe:El=>e.W.o) (c.map λe:El=>e.g)/\0<c.length /\ ∀(j:Nat)(x:El),c[j]?=some x->x.U=x.T) ⟨_,_,_,_,p5,[⟨R,W,jY m ns b,jY m ns b,[],g⟩],Z,U0,Nat.zero_lt_one,λj x h=>by
   have:j=0:=by have:=(aak.mp h).1;simpa using this
   subst this;cases h;rfl⟩ ?_ ?_
  .rintro j σ Hc hj ⟨b6,b5,b4,b3,a5,c,rfl,u,ne,hU⟩
   rw[Int.zero_add];dsimp only[bU];refine⟨_,Z,r,6,Z,u.b.T.R,by decide,by decide,λz1 H1 x1 x0 Ra ka=>?_⟩;have u1:=u.draw (Dr.draw u.b.T ka) (u.b.T.draw ka Ra);refine⟨_,Z,_,Z,L,_,Z,.inl (bG.of u1.er),?_⟩;rw[aae,aae];have l6:=u.l6;refine⟨r,_,Z,u1.b.T.R,by lia,by lia,λz2 H2 r1 w4 Rb kb=>?_⟩;have u2:=u1.draw (Dr.draw u1.b.T kb) (u1.b.T.draw kb Rb);refine⟨_,Z,_,Z,L,_,Z,.inl (bG.of u2.er),?_⟩;rw[aae,aae];refine⟨r,_,Z,u2.b.T.R,by lia,by lia,λz3 H3 r0 w0 Rc kd=>?_⟩;have u3:=u2.draw (Dr.draw u2.b.T kd) (u2.b.T.draw kd Rc);clear u u1 u2 ka kb kd Ra Rb Rc;obtain⟨J,rfl⟩:=ac3 r1;obtain⟨it,rfl⟩:=ac3 r0;obtain⟨e,ee⟩:∃e,c[J]?=some e:=⟨_,aaj (by lia)⟩;have E:=u3.al J e ee;have eU:=hU J e ee;dsimp only[bU];refine u_ (λk7 H'=>∃(a0:Tg) (T:List El) (e':El),k7=[some (.ref I),some (.ref r),some (.ref p),some nv,some (.int C.length),some (.int mm),some (.ref a),some (.ref tl),some (.ref sm),some (.ref hp),some (.ref L),some (.ref bl),some (.ref gl),some (.int (j:Nat)),some (.int z1),some (.int (J:Nat)),some (.int (it:Nat))]/\sV aC ao aq a0 H' r l tl O C.length sm seq M (jY m ns b) T L bl gl (T.map λe:El=>e.R.o) (T.map λe:El=>e.W.o) (T.map λe:El=>e.g)/\T[J]?=some e'/\it<T.length/\Md (jY m ns b) l e' /\ ∀(k:Nat)(x:El),k≠J->T[k]?=some x->x.U=x.T) (λD' o3 _=>?_) ?_
   .have n4:∀H',H' L=some (.lst ((c.map λe:El=>e.R.o).map V.ref))->bG K H' L ((c.map λe:El=>e.R.o).map V.ref)/\wG ((c.map λe:El=>e.R.o).map V.ref) (J:Int)=some (.ref e.R.o):=λH' h=>⟨bG.of h,bL (by rw[aam,aam,ee];rfl)⟩
    have v0:∀H',H' bl=some (.lst ((c.map λe:El=>e.W.o).map V.ref))->bG K H' bl ((c.map λe:El=>e.W.o).map V.ref)/\wG ((c.map λe:El=>e.W.o).map V.ref) (J:Int)=some (.ref e.W.o):=λH' h=>⟨bG.of h,bL (by rw[aam,aam,ee];rfl)⟩;have n5:∀H',H' gl=some (.lst ((c.map λe:El=>e.g).map V.ref))->bG K H' gl ((c.map λe:El=>e.g).map V.ref)/\wG ((c.map λe:El=>e.g).map V.ref) (J:Int)=some (.ref e.g):=λH' h=>⟨bG.of h,bL (by rw[aam,aam,ee];rfl)⟩;generalize hB:(adL (aaZ _) _ uN:TS)=B
    have k0:B D' [some (.ref I),some (.ref r),some (.ref p),some nv,some (.int C.length),some (.int mm),some (.ref a),some (.ref tl),some (.ref sm),some (.ref hp),some (.ref L),some (.ref bl),some (.ref gl),some (.int (j:Nat)),some (.int z1),some (.int (J:Nat)),some (.int (it:Nat))] H3:=by
     rw[←hB];obtain⟨a1,a2⟩:=n4 H3 u3.er;obtain⟨a3,a4⟩:=n5 H3 u3.eg;refine⟨_,Z,_,Z,L,_,J,_,Z,Z,a1,a2,_,Z,_,Z,_,Z,_,Z,gl,_,J,_,Z,Z,a3,a4,_,Z,_,Z,r,_,Z,u3.b.T.R,by lia,by lia,λz4 H4 p9 v6 Rd ke=>?_⟩;have u4:=u3.draw (Dr.draw u3.b.T ke) (u3.b.T.draw ke Rd);have E4:=u4.al J e ee;obtain⟨hh,rfl⟩:=ac3 p9;refine⟨4*J+20,4*J+21,4*J+23,C.length,a5,r,tl,sm,e.g,O,e.R,e.T,jY m ns b,S1,l,e.o,seq,M,hh,Z,u4.b,E4.G,C0,by lia,by lia,by lia,by lia,by lia,by lia,by lia,λT' o' H5 nx G' f3=>?_⟩;obtain⟨Hx,Hy,q1,q2,q3⟩:=id f3;have w5:=E4.w.mv (((Mv.cU q1 (by lia) (by lia)).trans (Mv.cU q2 (by lia) (by lia))).trans (Mv.cU q3 (by lia) (by lia))) G'.rp.w.un;have u5:=u4.put (j:=J) (e':=⟨e.R,e.W,T',e.U,o',e.g⟩) ⟨H5,f3,.refl _ _ _⟩ ⟨G',w5⟩;refine⟨_,Z,cX ?_⟩;unfold uN;refine o3 _ _ ⟨a5,c.set J ⟨e.R,e.W,T',e.U,o',e.g⟩,⟨e.R,e.W,T',e.U,o',e.g⟩,Z,?_,List.getElem?_set_self (by lia),by rw[acW];lia,?_,λk x nk hk=>hU k x (by rwa [List.getElem?_set_ne (Ne.symm nk)] at hk)⟩
     .have ms:∀f:El->Addr,f ⟨e.R,e.W,T',e.U,o',e.g⟩=f e->(c.set J ⟨e.R,e.W,T',e.U,o',e.g⟩).map f=c.map f:=λf q=>vH ee q
      rw[ms _ rfl,ms _ rfl,ms _ rfl];exact u5
     .rcases nx with ⟨rfl,rfl⟩|⟨b0,x,eb,rfl,rfl,e7⟩
      .exact .inl eU
      .exact .inr ⟨e.o,b0,x,Z,eb,by show Run _ _ e.U;rw[eU];exact E4.G.run,by show cA e.T x.k=cA e.U x.k;rw[eU],by show Kr e.U x;rw[eU];exact e7⟩
    refine⟨_,Z,Z,_,Z,?_⟩;refine cO (λ_=>?_) (λ_=>k0);refine⟨_,Z,L,_,Z,.inl (bG.of u3.er),_,_,Z,Z,_,Z,?_⟩;rw[aae,aae];refine cO (λq6=>?_) (λ_=>k0);have q6:c.length<6:=by have:=aaT q6;lia
    clear k0 hB;have gU:kJ e.U:=by rw[eU];exact vm E.G.run c5
    have mU:e.U.m<=100:=by rw[eU,(qI E.G.run).2];show m<=100;lia
    obtain⟨a1,a2⟩:=n4 H3 u3.er;refine⟨_,Z,.inl ⟨Z,_,bG.of u3.er⟩,_,Z,_,Z,L,_,J,_,Z,Z,a1,a2,e.R.o,e.R.dx,_,Z,E.G.rp.o,Z,4*J+20,4*J+21,4*c.length+20,4*c.length+21,a5,e.R,e.T,_,_,M,Z,E.G.rp,C0.sr,by lia,by lia,by lia,by lia,λb2 R4 H4 r4 b7 s4=>?_⟩;have u4:=u3.made s4 b7 r4.w.un;refine⟨L,_,_,Z,Z,u4.er,by rw[aae,aae,sizeLine_eq];lia,?_⟩;have app:∀(xs:List Addr)(y:Addr),xs.map V.ref++[V.ref y]=(xs++[y]).map V.ref:=λxs y=>by rw[ab1];rfl
    have nt:∀(vs xs:List V),HO.lst vs ≠ .tup xs:=λvs xs z=>by cases z
    rw[app];have q5:=(u4.grow (vs:=((c.map λe:El=>e.R.o)++[R4.o]).map V.ref) u4.tr u4.er (nt _)).1;have u5:=u4.aeM R4.o;have r5:=r4.mv (Mv.cU q5 (by lia) (by decide)) (Mv.cU q5 (by lia) (by decide)) u5.b.T.un;clear u4 r4 q5 s4 b7;generalize upd H4 L (.lst (((c.map λe:El=>e.R.o)++[R4.o]).map V.ref))=H5 at u5 r5 ⊢;have E5:=u5.al J e ee;obtain⟨a1,a2⟩:=v0 H5 u5.eb;refine⟨_,Z,.inl ⟨Z,_,bG.of u5.eb⟩,_,Z,_,Z,bl,_,J,_,Z,Z,a1,a2,e.W.o,e.W.dx,_,Z,E5.w.o,Z,4*J+22,4*c.length+22,b2,e.W,e.U,Z,E5.w,gU,mU,by lia,λa9 W6 H6 w6 Ql s6=>?_⟩;have u6:=u5.made s6 Ql w6.un;have r6:=r5.mv (Mv.tags s6 Ql) (Mv.tags s6 Ql) w6.un;refine⟨bl,_,_,Z,Z,u6.eb,by rw[aae,aae,sizeLine_eq];lia,?_⟩;rw[app];have q7:=(u6.grow (vs:=((c.map λe:El=>e.W.o)++[W6.o]).map V.ref) u6.tb u6.eb (nt _)).1;have u7:=u6.aeO W6.o;have r7:=r6.mv (Mv.cU q7 (by lia) (by decide)) (Mv.cU q7 (by lia) (by decide)) u7.b.T.un;have w7:=w6.mv (Mv.cU q7 (by lia) (by decide)) u7.b.T.un;clear u5 r5 E5 u6 r6 w6 q7 s6 Ql a1 a2;generalize upd H6 bl (.lst (((c.map λe:El=>e.W.o)++[W6.o]).map V.ref))=H7 at u7 r7 w7 ⊢;have E7:=u7.al J e ee;obtain⟨a1,a2⟩:=n5 H7 u7.eg;refine⟨_,Z,.inl ⟨Z,_,bG.of u7.eg⟩,_,Z,_,Z,gl,_,J,_,Z,Z,a1,a2,e.g,_,Z,.inl (bG.of E7.G.eg),λgq g2=>?_⟩;have s8:=aH (o:=HO.lst ((d_ (pick l e.o) C.length).map V.int)) g2;have CG:∀x o,H7 x=some o->aQ a9 gq [4*c.length+23] x=a9 x:=λx o z=>aU (aA z g2);have k3:(upd H7 gq (.lst ((d_ (pick l e.o) C.length).map V.int))) gq=some (.lst ((d_ (pick l e.o) C.length).map V.int)):=ak;have c7:=w7.un.claim (t:=[4*c.length+23]) s8 (p:=gq) ⟨_,k3⟩;have u8:=u7.made s8 CG c7;have r8:=r7.mv (Mv.tags s8 CG) (Mv.tags s8 CG) c7;have w8:=w7.mv (Mv.tags s8 CG) c7;have l2:aQ a9 gq [4*c.length+23] gq=[4*c.length+23]:=bF;have t7:gq≠gl:=(aA u7.eg g2).symm;clear u7 r7 w7 E7 a1 a2 s8 CG g2;generalize upd H7 gq (.lst ((d_ (pick l e.o) C.length).map V.int))=H8 at u8 r8 w8 k3 c7 ⊢;generalize aQ a9 gq [4*c.length+23]=a6 at u8 r8 w8 l2 c7;refine⟨gl,_,_,Z,Z,u8.eg,by rw[aae,aae,sizeLine_eq];lia,?_⟩;rw[app];have q9:=(u8.grow (vs:=((c.map λe:El=>e.g)++[gq]).map V.ref) u8.tg u8.eg (nt _)).1;have u9:=u8.aeN gq;have r9:=r8.mv (Mv.cU q9 (by lia) (by decide)) (Mv.cU q9 (by lia) (by decide)) u9.b.T.un;have w9:=w8.mv (Mv.cU q9 (by lia) (by decide)) u9.b.T.un;have r3:=u9.more (e:=⟨R4,W6,e.T,e.U,e.o,gq⟩) ⟨⟨r9,by rw[aF t7];exact k3,l2,E.G.O,E.G.run⟩,w9⟩ q6;refine o3 _ _ ⟨a6,c++[⟨R4,W6,e.T,e.U,e.o,gq⟩],e,Z,?_,by rw[abU (by lia)];exact ee,by rw[abf];lia,.inl eU,λk x nk hk=>?_⟩
    .have ma:∀f:El->Addr,(c++[(⟨R4,W6,e.T,e.U,e.o,gq⟩:El)]).map f=c.map f++[f ⟨R4,W6,e.T,e.U,e.o,gq⟩]:=λf=>by rw[ab1];rfl
     rw[ma,ma,ma];exact r3
    .rcases lV hk with hk|⟨_,rfl⟩
     .exact hU k x hk
     .exact eU
   .clear u3 E ee eU e hU ne
    rintro k7 H' ⟨a0,T,e,rfl,u,ee,il,md,hU⟩;have E:=u.al J e ee;refine u_ (λp1 p4=>∃G5:List El,p1=[some (.ref I),some (.ref r),some (.ref p),some nv,some (.int C.length),some (.int mm),some (.ref a),some (.ref tl),some (.ref sm),some (.ref hp),some (.ref L),some (.ref bl),some (.ref gl),some (.int (j:Nat)),some (.int z1),some (.int (J:Nat)),some (.int (it:Nat))]/\sV aC ao aq a0 p4 r l tl O C.length sm seq M (jY m ns b) G5 L bl gl (G5.map λe:El=>e.R.o) (G5.map λe:El=>e.W.o) (G5.map λe:El=>e.g)/\it<G5.length /\ ∀(k:Nat)(x:El),G5[k]?=some x->x.U=x.T) (λD1 o2 _=>?_) ?_
    .have x6:e.T.hs.length=C.length:=by rw[(qI E.G.run).1,l0]
     have x2:=E.G.ts C0;have gT:=LR E.G.run rfl;rw[l0] at gT;refine⟨_,Z,_,Z,bl,_,J,_,Z,Z,bG.of u.eb,bL (by rw[aam,aam,ee];rfl),_,Z,_,Z,gl,_,J,_,Z,Z,bG.of u.eg,bL (by rw[aam,aam,ee];rfl),4*J+22,a0,e.W,e.U,e.g,d_ (pick l e.o) C.length,Z,E.w,?_,by rw[E.G.tg];intro z;have:=abe z;lia,E.G.eg,?_,?_⟩
     .rcases md with h|⟨o0,b0,x,eo,eb,RU,eT,e7⟩
      .rw[h];lia
      .have e1:(pick l e.o).length=e.o.length:=E.G.O.rest.2
       have e2:=E.G.O.rest.1;rw[eo,iH,gZ eb,abf,abf] at e1;rw[eo,abf] at e2;rw[Bf RU,show (jY m ns b).ts=[] from rfl,abf,aae];show 0+(pick l o0).length<=10000;lia
     .rcases md with h|⟨o0,b0,x,eo,eb,RU,eT,e7⟩
      .rw[h];lia
      .rw[(qI RU).1,l0];exact i3
     .rcases md with h|⟨o0,b0,x,eo,eb,RU,eT,e7⟩
      .refine .inl ⟨by rw[h,gT],λH1 s1=>o2 _ _ ⟨T,Z,u.same s1,il,λk x hk=>?_⟩⟩
       by_cases z:k=J
       .rw[z,ee] at hk
        cases hk;exact h
       .exact hU k x z hk
      .have mx:=aaK eb
       have gU:=LR RU rfl;rw[l0] at gU;have v3:e.U.hs.length=C.length:=by rw[(qI RU).1,l0]
       obtain⟨s0,q1,q2,q3,_⟩:=id e7;refine .inr ⟨x.k,by rw[gU,eo,iH,gZ eb];exact BW (hn x mx),by rw[v3];exact hn x mx,⟨s0,x.r,q1,q2,q3,Z2 x mx⟩,λH1 w1 st=>?_⟩;have r2:=st.un u.b.T.un;have E1:E55 aC ao aq J a0 H1 (jY m ns b) l C.length M ⟨e.R,e.W,e.T,e.T,e.o,e.g⟩:=⟨E.G.mv (λm hm=>Mv.cU st (by lia) (by lia)) r2,by show mC _ _ _ _ _ e.W e.T;rw[eT];exact w1⟩;have u1:=u.put (j:=J) ⟨_,.of_same (Same.refl _),st⟩ E1;refine o2 _ _ ⟨T.set J ⟨e.R,e.W,e.T,e.T,e.o,e.g⟩,Z,?_,by rw[acW];exact il,λk y hk=>?_⟩
       .have ms:∀f:El->Addr,f ⟨e.R,e.W,e.T,e.T,e.o,e.g⟩=f e->(T.set J ⟨e.R,e.W,e.T,e.T,e.o,e.g⟩).map f=T.map f:=λf q=>vH ee q
        rw[ms _ rfl,ms _ rfl,ms _ rfl];exact u1
       .by_cases z:J=k
        .subst z
         rw[List.getElem?_set_self (aak.mp ee).1] at hk;cases hk;rfl
        .rw[List.getElem?_set_ne z] at hk
         exact hU k y (Ne.symm z) hk
    .rintro p1 p4 ⟨G5,rfl,u,il,hU⟩
     obtain⟨x,ex⟩:∃x,G5[it]?=some x:=⟨_,aaj il⟩;have X:=u.al it x ex;have xU:=hU it x ex;refine⟨_,Z,_,Z,L,_,it,_,Z,Z,bG.of u.er,bL (by rw[aam,aam,ex];rfl),_,Z,_,Z,_,Z,_,Z,gl,_,it,_,Z,Z,bG.of u.eg,bL (by rw[aam,aam,ex];rfl),4*it+20,4*it+21,4*it+23,C.length,a0,r,tl,sm,x.g,O,x.R,x.T,jY m ns b,S1,l,x.o,seq,M,Z,u.b,X.G,C0,λH2 s2=>?_⟩;refine⟨_,Z,cX ?_⟩;have u2:=u.same s2;have X2:=u2.al it x ex;have gT:=vm X.G.run c5;refine⟨_,Z,_,Z,L,_,it,_,Z,Z,bG.of u2.er,bL (by rw[aam,aam,ex];rfl),x.R.o,x.R.dx,_,Z,X2.G.rp.o,Z,4*it+20,4*it+21,5,a0,x.R,x.T,_,_,M,Z,X2.G.rp,by decide,λU W3 H3 w3 c0 s3=>?_⟩;have u3:=u2.made s3 c0 w3.un;have X3:=u3.al it x ex;refine⟨_,Z,_,Z,bl,_,it,_,Z,Z,bG.of u3.eb,bL (by rw[aam,aam,ex];rfl),W3.o,x.W.o,W3.dx,x.W.dx,_,_,Z,Z,w3.o,X3.w.o,5,4*it+22,U,U,W3,x.W,x.T,x.U,Z,w3,X3.w,gT,by rw[xU];exact gT,λH4 s4=>?_⟩
     have eE:wkE x.T x.U=true:=by
      unfold wkE;rw[xU];exact Wb (Ho gT w3.HS)
     rw[eE];refine⟨true,Z,_,Z,cX ?_⟩;unfold uN;exact⟨_,_,_,_,U,G5,Z,u3.same s4,by lia,hU⟩
  .rintro σ Hc ⟨b6,b5,b4,b3,a5,c,rfl,u,ne,hU⟩
   have l6:=u.l6;refine⟨_,Z,L,_,Z,.inl (bG.of u.er),(c.length:Int),by rw[aae,aae],by lia,by lia,?_⟩;rw[acd];refine gD (lo:=0) (n:=c.length) (λi σ Hc=>∃(b6 b5 b4 b3:Option V) (a5:Tg),σ=[some (.ref I),some (.ref r),some (.ref p),some nv,some (.int C.length),some (.int mm),some (.ref a),some (.ref tl),some (.ref sm),some (.ref hp),some (.ref L),some (.ref bl),some (.ref gl),b6,b5,b4,b3]/\sV aC ao aq a5 Hc r l tl O C.length sm seq M (jY m ns b) c L bl gl (c.map λe:El=>e.R.o) (c.map λe:El=>e.W.o) (c.map λe:El=>e.g)) ⟨_,_,_,_,a5,Z,u⟩ ?_ (λσ Hc ⟨_,_,_,_,_,e,_⟩=>by rw[e];exact k Hc);clear u;rintro it σ Hc hi ⟨b6,b5,b4,b3,a0,rfl,u⟩;rw[Int.zero_add];dsimp only[bU];obtain⟨x,ex⟩:∃x,c[it]?=some x:=⟨_,aaj hi⟩;have X:=u.al it x ex;have xU:=hU it x ex;refine⟨_,Z,_,Z,L,_,it,_,Z,Z,bG.of u.er,bL (by rw[aam,aam,ex];rfl),_,Z,_,Z,_,Z,_,Z,gl,_,it,_,Z,Z,bG.of u.eg,bL (by rw[aam,aam,ex];rfl),4*it+20,4*it+21,4*it+23,C.length,a0,r,tl,sm,x.g,O,x.R,x.T,jY m ns b,S1,l,x.o,seq,M,Z,u.b,X.G,C0,λH2 s2=>?_⟩;refine⟨_,Z,cX ?_⟩;unfold uN;dsimp only;have u2:=u.same s2;have X2:=u2.al it x ex;have gT:=vm X.G.run c5;refine⟨_,Z,_,Z,L,_,it,_,Z,Z,bG.of u2.er,bL (by rw[aam,aam,ex];rfl),x.R.o,x.R.dx,_,Z,X2.G.rp.o,Z,4*it+20,4*it+21,5,a0,x.R,x.T,_,_,M,Z,X2.G.rp,by decide,λU W3 H3 w3 c0 s3=>?_⟩;have u3:=u2.made s3 c0 w3.un;have X3:=u3.al it x ex;refine⟨_,Z,_,Z,bl,_,it,_,Z,Z,bG.of u3.eb,bL (by rw[aam,aam,ex];rfl),W3.o,x.W.o,W3.dx,x.W.dx,_,_,Z,Z,w3.o,X3.w.o,5,4*it+22,U,U,W3,x.W,x.T,x.U,Z,w3,X3.w,gT,by rw[xU];exact gT,λH4 s4=>?_⟩
   have eE:wkE x.T x.U=true:=by
    unfold wkE;rw[xU];exact Wb (Ho gT w3.HS)
   rw[eE];refine⟨true,Z,_,Z,cX ?_⟩;have u4:=u3.same s4;have X4:=u4.al it x ex;refine⟨_,Z,_,Z,bl,_,it,_,Z,Z,bG.of u4.eb,bL (by rw[aam,aam,ex];rfl),x.W.o,x.W.dx,_,Z,X4.w.o,Z,4*it+22,U,x.W,x.U,Z,X4.w,λl1 H5 x7 v4 s5=>?_⟩;have u5:=u4.same s5;have X5:=u5.al it x ex;refine⟨_,Z,_,Z,gl,_,it,_,Z,Z,bG.of u5.eg,bL (by rw[aam,aam,ex];rfl),_,_,dh v4,dh X5.G.eg,shaped_ints _,shaped_ints _,_,Z,?_⟩;have gC:=LR X.G.run rfl;rw[l0] at gC;rw[ac_ rfl,lX PyData.int vU,xU,gC,aaO rfl];refine cX ?_;exact⟨_,_,_,_,U,Z,u5⟩
end
theorem len0(h:us.length=0):us=[]:=List.eq_nil_of_length_eq_zero h
theorem Lj(h:us.length=n+1):∃a vs,us=a::vs/\vs.length=n:=by
 cases us with
 | nil=>cases h
 | cons a t=>exact⟨a,t,Z,Nat.succ.inj h⟩
theorem Cp{T:Addr}{c:Value}(d:K.lookup T=some ⟨c,td,.seq #[.none] tn,SN⟩){kV:Value}:Binds K (W.fnOf "__init__" "Works.__init__" (d9 bZ) (gH bZ) (aP bZ) (.ref T) kV doc pm an cdv ct) ["self","program","cells"] []:=by
 intro s b KX a;have a:b.length=3:=by simpa using a
 obtain⟨_,_,rfl,g⟩:=Lj a;obtain⟨_,_,rfl,f⟩:=Lj g;obtain⟨_,_,rfl,e⟩:=Lj f;cases len0 e;exact W.binds_K KX rfl d rfl rfl rfl
theorem Cm{T:Addr}{c:Value}(d:K.lookup T=some ⟨c,td,.seq #[.none] tn,SN⟩){kV:Value}:Binds K (W.fnOf "__init__" "Works.__init__" (d9 bZ) (gH bZ) (aP bZ) (.ref T) kV doc pm an cdv ct) ["self","program","cells"] [.none]:=by
 intro s b KX a;have a:b.length=2:=by simpa using a
 obtain⟨_,_,rfl,f⟩:=Lj a;obtain⟨_,_,rfl,e⟩:=Lj f;cases len0 e;exact W.binds_K KX rfl d rfl rfl rfl
theorem Ck{T:Addr}{b:Value}(d:K.lookup T=some ⟨b,td,.seq #[.none] tn,SN⟩){kV:Value}(s:Shared)(us:zzt)(z:Value)(KX:K.In s.heap)(a:(us++[z]).length=(["self","program","cells"]:List Str).length):BindsTo s (W.fnOf "__init__" "Works.__init__" (d9 bZ) (gH bZ) (aP bZ) (.ref T) kV doc pm an cdv ct) ⟨us,[("cells",z)]⟩ ((["self","program","cells"]:List Str).zip (us++[z])):=by
 have a:us.length=2:=by simpa using a
 obtain⟨_,_,rfl,e⟩:=Lj a;obtain⟨_,_,rfl,c⟩:=Lj e;cases len0 c;exact W.binds_K KX rfl d rfl rfl rfl
theorem all_mk{l:W.OpenLaw}{h:Heap}{mg:zzv}{fa b t L Km:Addr}(X:K.In h)(G:h.Ns mainGlobals mg)(a0:mg "law" = some (.ref fa))(HB:MJ K "Hand" aq)(ig:MJ K "Works" ao)(wB:MJ K "Replay" aC)(Fg:ZP K aq ["rows","at","in_boxes","sayings","state"])(zH:ZP K ao ["program","numbers","hands","turns"])(wI:ZP K aC ["record","firsts","stage","progress"])(ycg:XcI K)(wK:W.findIn K (.ref ao) "__class__" = some (some (.builtin "object.__class__")))(wJ:W.mroIn K ao (.type "object")=some true)(qd:Xa K "NoNumber" bW)(wN:Xa K "NoHand" bI)(Fo:Xa K "Over" cY)(mF:Xa K "Held" bV)(oK:Xa K "NoteError" L)(wM:Xa K "NoNote" Km)(gW:yG K bW L true)(fQ:yG K cY L true)(fU:yG K bV L true)(jf:yG K bW Km false)(xcc:XcI K)(p7:XrI K bW)(wL:XrI K bI)(Fi:XrI K cY)(zQ:W.findIn K (.ref bV) "__getattribute__" = some (some (.builtin "BaseException.__getattribute__")))(zP:W.findIn K (.ref bV) "__getattr__" = some none)(zN:W.mroIn K bV (.type "BaseException")=some true)(zT:W.findIn K (.ref bV) "__class__" = some (some (.builtin "object.__class__")))(uH:W.mroIn K bV (.type "object")=some true)(zJ:W.subIn K (.ref bV) (.type "ValueError")=some true)(zK:W.findIn K (.ref bV) "__setattr__" = some (some (.builtin "object.__setattr__")))(zL:((W.clsIn K bV).any λcd=>cd.hasDict&&W.zx cd.mro)=true)(zR:W.hasDictIn K bV=true)(zM:W.findIn K (.ref bV) "note" = some none)(Fj:W.Zq K bV=true)(zO:W.keepIn K (.ref bV)=true){V2:Tok}(GZ:W.nsIn K mainGlobals "BOXES" = some (some (.str "abcdefgh" V2))){V1:Tok}(GX:W.nsIn K mainGlobals "ROUND" = some (some (.int 1000 V1))){uo:Tok}(i_:W.nsIn K mainGlobals "MOST_UNTOUCHING" = some (some (.int 60 uo)))(q0:iV K "is_whole" tV)(q1:iV K "is_below" tW)(q2:iw K aq "__init__" "Hand.__init__" qH)(q3:iV K "cell_of" xH)(q4:iw K aq "value_of" "Hand.value_of" iJ)(q5:iw K aq "holds" "Hand.holds" o_)(q6:iw K aq "take" "Hand.take" qG)(q7:iw K aq "do" "Hand.do" xK)(q8:iw K aq "lead_on" "Hand.lead_on" lJ)(q9:iV K "check_numbers" j4)(Qo:iw K ao "touch_by" "Works.touch_by" jw)(q11:iw K ao "hand_of" "Works.hand_of" j6)(q12:iw K ao "turn" "Works.turn" o9){b0 a8:Option Addr}{a9 a5 a7 b1 r a6:Value}{b2:Value}{b3:Nat}(a13:W.findIn K (.ref ao) "__init__" = some (some (.ref b)))(l13:K.lookup b=some ⟨a9,b0,.func (W.fnOf "__init__" "Works.__init__" (d9 bZ) (gH bZ) (aP bZ) (.ref t) a5 a7 b1 a8 r a6),ag4⟩)(c13:W.codeIn K r "Works.__init__" = true)(k13:W.keepIn K (.ref b)=true)(n13:W.isFn K (.ref b)=true)(HW:K.lookup t=some ⟨b2,agL,.seq #[.none] b3,adz⟩)(q14:iV K "_law_reel" Gd)(q15:iV K "_law_draw" Gf)(q16:iV K "_law_alike" vh)(q17:iV K "_law_plain" Ay)(q18:iV K "_law_worth" Ax)(q19:iV K "_law_row" KY)(q20:iV K "_law_program" tY)(q21:iV K "_law_numbers" tZ)(q22:iw K ao "cells" "Works.cells" m_)(q23:iw K ao "how" "Works.how" qC)(q24:iw K ao "counts" "Works.counts" lD)(q25:iw K aq "another" "Hand.another" lK)(q26:iw K ao "twin" "Works.twin" o8)(q27:iw K aq "picture" "Hand.picture" lH)(q28:iw K ao "picture" "Works.picture" j5)(q29:iw K ao "__eq__" "Works.__eq__" lE)(q30:iV K "_law_meet" Ge)(q31:iV K "_law_ahead" A_)(q32:iV K "_law_covered" uc)(q33:iV K "_law_notes" Az)(q34:iV K "_law_run" KQ)(q35:iV K "firsts_of" qz)(q36:iV K "is_note" xG)(q37:iV K "is_between" o7)(q38:iV K "check_notes" m8)(q39:iV K "has" TF)(q40:iw K aC "counts" "Replay.counts" j7)(q41:iw K aC "done" "Replay.done" nH)(q42:iw K aC "works" "Replay.works" lG)(q43:iw K aC "is_over" "Replay.is_over" jx)(q44:iw K aC "holding" "Replay.holding" jy)(q45:iw K aC "free" "Replay.free" nG)(q46:iw K aC "left" "Replay.left" nA)(q47:iw K aC "__len__" "Replay.__len__" jz)(q48:iw K bV "__init__" "Held.__init__" qF)(q49:iw K aC "turn" "Replay.turn" nu)(q50:iw K aC "__init__" "Replay.__init__" nF)(q51:iw K aC "twin" "Replay.twin" ni)(q52:iV K "_law_held_by" t_)(q53:iV K "_law_refusal" tX)(q54:iV K "_law_beside" xJ)(q55:iV K "_law_told" Ga)(q56:iV K "_law_step" Gb)(q57:iV K "law" Tz)(zb:WT K ["ValueError","all","bool","enumerate","int","isinstance","len","list","max","min","range","reversed","sorted","str","sum","tuple","zip"]):
 ∃fd:zzs,(∀(s:Shared)(v:Value),BindsTo s fd ⟨[v],[]⟩ [("script",v)]) /\ ∀base:Heap,K.In base->base.Ns mainGlobals mg->bR l.prog w K mg base iB 13 fa fd ["script"] (Iu K):=by
 obtain⟨fl,a1,al,Fl⟩:=q57;cases a0.symm.trans (W.mg_of X G al);obtain⟨z0,z1,z2,z3,z4,z5,z6,z7,z8,z9,T,S,R,Q,P,O,N,_⟩:=zb.mg X G;have a:nR mg:=⟨z0,z1,z2,z3,z4,z5,z6,z7,z8,z9,T,S,R,Q,P,O,N⟩;obtain⟨q,p,o,m,n4,_⟩:=Fg;have d:fY K aq:=⟨HB.cls,q,p,o,m,n4⟩;obtain⟨q,p,o,m,_⟩:=zH;have c:dz K ao:=⟨ig.cls,q,p,o,m⟩;obtain⟨q,p,o,m,_⟩:=wI;have e:cW K aC:=⟨wB.cls,q,p,o,m⟩;have zG:IsO K mg ao "Works" :=⟨W.mg_of X G ig.a,wK,ycg.cg,ycg.ct,wJ⟩;have J:Gv mg "BOXES" (.str "abcdefgh"):=⟨_,W.mg_of X G GZ,⟨_,Z⟩⟩;have jj:Gv mg "ROUND" (.int 1000):=⟨_,W.mg_of X G GX,⟨_,Z⟩⟩;have gJ:Gv mg "MOST_UNTOUCHING" (.int 60):=⟨_,W.mg_of X G i_,⟨_,Z⟩⟩;have jG:=qd.r X G p7 xcc;have gA:=wN.r X G wL xcc;have V:=Fo.r X G Fi xcc;have lZ:Xf K mg bV "Held" "note" :=⟨W.mg_of X G mF.a,⟨mF.cl,mF.ty,mF.bs⟩,⟨zQ,zP,zN,mF.cl,zT,xcc.cg,xcc.ct,uH⟩,zJ,⟨zK,uH,zL⟩,zR,zM⟩;have mY:=oK.o X G gW;have f7:=wM.o X G jf;have b9:ZS K "__init__" "Works.__init__" bZ [.none] b _:=⟨⟨_,_,_,_,_,_,_,_,_,_,_,_,_,_,Z,l13,c13,HW⟩,k13⟩;refine⟨a1,Fl.bind1 (by kernel_rfl),λbase _ _=>?_⟩;have Y:At8 l.prog w K mg base:=⟨_,X,G⟩;have A0:=Y.fn q0 λF=>Je F a;have M:=Y.fn q1 λF=>Jf F A0;have A2:=Y.ma HB q2 (sp:=uX aq K) λF=>Ve F d J;have A3:=Y.fn q3 λF=>QD F;have a3:=Y.me q4 (sp:=yr aq 0 K) λF=>Yy F;have a4:=Y.me q4 λF=>Oi (n:=0) F a3 d J jj;have A4:=Y.me q4 λF=>Oi (n:=1) F a4 d J jj;have A5:=Y.me q5 (sp:=zm aq K) λF=>Vd F A4 d;have A6:=Y.me q6 (sp:=Ad aq K) λF=>YC F d J;have A7:=Y.me q7 (sp:=XM aq K) λF=>aeb F A4 A6 A5 d;have A8:=Y.me q8 (sp:=Ae aq K) λF=>YL F A3 A7 d gJ a;have A9:=Y.fnX q9 (sp:=oR bW K) λF=>Jg F M jj a jG;have f4:=Y.me Qo (sp:=rQ ao aq K) λF=>K8 F A3 A4 A6 c d;have I:=Y.meX q11 (sp:=qm ao aq bI K) λF=>Qz F M c a gA;have k:=Y.meX q12 (sp:=wU ao aq bI cY K) λF=>YB F I f4 A8 c d V;have i:=U4 b9 c d A9 A2 A8 a;have H:wz l.prog w K mg base 7 ao "Works" ["self","program","cells"] [] (mH ao aq bW K):=⟨b,_,_,i,⟨ig.ms,a13,n13,ig.kp⟩,W.mg_of X G ig.a,Cp HW,.nil⟩;have f5:wz l.prog w K mg base 7 ao "Works" ["self","program","cells"] [.non] (mH ao aq bW K):=⟨b,_,_,i,⟨ig.ms,a13,n13,ig.kp⟩,W.mg_of X G ig.a,Cm HW,.cons rfl .nil⟩;have f6:ZQ l.prog w K mg base 7 ao "Works" ["self","program","cells"] "cells" (mH ao aq bW K):=⟨b,_,i,⟨ig.ms,a13,n13,ig.kp⟩,W.mg_of X G ig.a,Ck HW⟩;have f3:=Y.fn q14 λF=>Va F a;have f:=Y.fn q15 λF=>Vg F a;have b4:=Y.fn q16 (sp:=oU 0 K) λF=>QG F;have b5:=Y.fn q16 λF=>sE (n:=0) F b4 a;have b6:=Y.fn q16 λF=>sE (n:=1) F b5 a;have b7:=Y.fn q16 λF=>sE (n:=2) F b6 a;have E:=Y.fn q16 λF=>sE (n:=3) F b7 a;have f2:=Y.fn q17 λF=>Vc F f;have f1:=Y.fn q18 λF=>U3 F f f2;have f0:=Y.fn q19 λF=>abE F f f1 a;have e9:=Y.fn q20 λF=>YG F f f0 a;have e8:=Y.fn q21 λF=>YH F f a;have e7:=Y.me q22 (sp:=zu ao aq K) λF=>Vh F c a;have D:=Y.meX q23 (sp:=Dy ao aq bI K) λF=>abI F I c d;have g:=Y.me q24 (sp:=lB ao aq K) λF=>QC F c a;have e6:=Y.me q25 (sp:=rW aq K) λF=>Ld F d A2 a;have j:=Y.me q26 (sp:=wR ao aq K) λF=>Yz F c d H.calm e6 a;have e5:=Y.me q27 (sp:=FN aq K) λF=>YM F d a;have e4:=Y.me q28 (sp:=Nz ao aq K) λF=>abF F c d e5 e7 g a;have e3:=Y.me q29 (sp:=Ny ao aq K) λF=>abD F c zG e4 a;have C:=Y.fn q30 λF=>YJ F;have e2:=Y.fn q31 λF=>abL F C a;have e1:=Y.fn q32 λF=>abK F a;have e0:=Y.fn q33 λF=>abG F C e2 e1 a;have d7:=Y.fn q34 (sp:=Fw ao aq K) λF=>YD F f c D.calm k.calm a;have d6:=Y.fn q35 λF=>QB F;have d5:=Y.fn q36 λF=>K_ F A0 a;have d4:=Y.fn q37 λF=>CV F M d5 a;have d3:=Y.fn q38 λF=>Br F d4 a;have d2:=Y.fn q39 λF=>abJ F;have d1:=Y.me q40 (sp:=rR aC ao aq K) λF=>K9 F e a;have d0:=Y.me q41 (sp:=zj aC ao aq K) λF=>Vb F e a;have c9:=Y.me q42 (sp:=uT aC ao aq K) λF=>Qx F e c j a;have B:=Y.me q43 (sp:=qj aC ao aq K) λF=>Qy F e c D.calm a;have A:=Y.me q44 (sp:=Ag aC ao aq K) λF=>La F e d2 a;have c8:=Y.me q45 (sp:=zf aC ao aq K) λF=>U9 F e B A a;have c7:=Y.me q46 (sp:=FJ aC ao aq K) λF=>YK F e a;have c6:=Y.me q47 (sp:=Fy aC ao aq K) λF=>YF F e c7 a;obtain⟨a2,_,⟨b8,U⟩,u⟩:=q48;have c5:PB l.prog w K mg base 1 bV "Held" ["self","note"] (zq bV K):=⟨a2,_,Vf u lZ,b8,beq_iff_eq.mp U,Fj,W.mg_of X G mF.a,zO,u.uy (by kernel_rfl)⟩;have z:=Y.meX q49 (sp:=uU aC ao aq bI cY bV K) λF=>U6 F gA V e c M B A k c5 a;have y:=Y.maX wB q50 (sp:=uV aC ao aq bI K) λF=>U8 F gA e c d3 g d6 j a;have c4:=Y.me q51 (sp:=za aC ao aq K) λF=>U5 F e y.calm a;have x:=Y.fn q52 λF=>Lb F a;have c3:=Y.fn q53 (sp:=yZ aC ao aq cY bV K) λF=>U_ F fQ fU z mY e a;have c2:=Y.fn q54 (sp:=uZ ao aq K) λF=>QF F g k.calm c a;have c1:=Y.fn q55 (sp:=uQ aC ao aq K) λF=>Qu F c8 d1 d0 c6 x E e a;have c0:=Y.fn q56 (sp:=uR aC ao aq K) λF=>Qw F V lZ c3 x z.calm E e a;exact abH Fl f3 f e9 e8 H.calm d7 e0 y.calm c4 j c0 c2 c1 c9 e3 g e c a
theorem walk{l:W.OpenLaw}{d:DefRec}{K:Params->zzy}(e:l.most=some 63)(b:d.params.defaults=[])(i:∀(w:World)(h:Heap),YP w h->(K w.params).In h)(F:∀(w:World)(mg:zzv)(fa:Addr)(h:Heap),(K w.params).In h->h.Ns mainGlobals mg->mg d.name=some (.ref fa) ->
   ∃fd:zzs,(∀(s:Shared)(u:Value),BindsTo s fd ⟨[u],[]⟩ [("script",u)]) /\ ∀base:Heap,(K w.params).In base->base.Ns mainGlobals mg->bR l.prog w (K w.params) mg base iB 13 fa fd ["script"] (Iu (K w.params))):
 W.WalkO q loose XP YP l.row.toRowW d [] (λf vs=>PySem.call f vs):=
 L2.Xl (n:=63) (k:=13) (x:= "script") (CX:=λ_=>iB) (sp:=λw=>Iu (K w.params)) e (by decide) b ⟨Z,by decide,by decide⟩ i F (λ_ _ a c g _ j=>⟨a,c,Z,j,g,λ_=>rfl⟩) λ_ _ _ _ _ z=>z
end Prf
variable{ws:List Prf.mD}{W:Prf.wg}{iC:List Prf.Nt}
structure PySem.W.Fast:Prop where(tw17771039954119889465 tw1586522079245695229 tw17116611200189607394 tw17433259869413224499 tw6705333700419869513 tw4657581861625601558 tw5500708407132456826 tw10072160477944436984 tw16937995066904277665 tw8281542499336192850 tw17943885541680549306 tw9152467864605369699 tw1212710461547736868 tw17803802732211704766 tw7495147136931263359 tw10919538310769981489 tw12402996030234864957 tw11855136835088241405 tw16567836364536428414 tw5706386161703602402 tw10765323174158652284 tw7970001762771750298 tw12084154853595916461 tw6977734545715062704 tw13267126547449761252 tw2341976907388966257 tw4306593234318038878 tw15458043057671251469 tw12353067141013279772 tw9911401806683531154 tw3265507865246463199 tw4356814798928165858 tw5086623013149870081 tw6422780372599130552 tw4944203977996266527 tw17097643254833177947 tw16443905315444568701 tw15413503688550261526 tw2242868732659059563 tw3819986631006994293 tw13524445979909544212 tw1905191072352904205 tw2142102991702789707 tw14996125412574404355 tw5895171701811039129 tw160159869512534189 tw5963390440723802033 tw16115412114576364356 tw15457546060797886520 tw11010324524624325848 tw12473315369323504740 tw626674826711408599 tw8930902388028006981 tw6096865186395236908 tw1396043661328904342 tw1781232401495098648 tw14846259490232267063 tw3172140399625498543 tw12678998584939677693 tw8477760178935611002 tw1018151007942663840 tw18347278106822294147 tw14950968577597544729 tw17700763062772720148 tw1778799428807574003 tw770653923767738718 tw5999145082852522183 tw310851758281255026 tw784474594880728417 tw14249382956353824176 tw2439636914154385890 tw17547780790443453883 tw16884360719186728568 tw803399658295894744 tw17782545056660611877 tw13970284864640617809 tw156821101305997341 tw12950571936864779682 tw9129607879657831429 tw16752526277887822739 tw10268169747403605253 tw10303049676474487961 tw6446370807480343566 tw3421787408045024307 tw17640943261593573663 tw16484770444957927788 tw657842098098418117 tw18185194182694588215 tw3231963459381103585 tw16337441671094322833 tw7585746120245072506 tw3126293880945620982 tw17332486919102073868 tw397759864915207547 tw12375403657515353769 tw9561869579501521238 tw11064792540984598287 tw15706688035997746373 tw8848301832202821755 tw4934831618887370988 tw8093942947079124306 tw5908050012575584850 tw8413601097839720117 tw10678387773683026367 tw3999871858717766644 tw1261465500779954410 tw3121834482003982996 tw5140585025561167988 tw1255553494611085716 tw3976302288331034155 tw2249408120691561264 tw14100318036321908673 tw5161962693126819860 tw15776566916466226283 tw3223023550699872245 tw10178528400717122781 tw14600409690942828545 tw13092764932235606656 tw2660784471548674318 tw6425538064094430350 tw3833546149688925268 tw3246113595439962461 tw3271847009484794725 tw15940725999120765416 tw7676356070856874655 tw1057168449236466200 tw6746102957544568955 tw13622005430860019151 tw16451590148560853900 tw9352980306445468493 tw2542685215640573311 tw1318936324853270744 tw10119194145517358290 tw10882860959768687526 tw11713933577671096767 tw5314981675877582965 tw11610047803532015436 tw6569604362728322074 tw13891039139835132661 tw8754288566479100952 tw2299007064216238372 tw10745337760882863521 tw5854952541637285702 tw15494614671976840158 tw18146209592706206712 tw3039255030295697921 tw258257439965197793 tw5939065124031834636 tw3760501103266353106 tw13027457440003508450 tw7942246218414963518 tw14318421340717704946 tw2984636592758867767 tw9574411915908840340 tw17577475062416172766 tw3948786114835895718 tw822017067015314617 tw13072398009115605880 tw8557489654085363051 tw14697321682646608288 tw9920053775159104137 tw9562643088248578409 tw18277091591443540945 tw16158187025311293865 tw1598740850035277686 tw18354443529602523372 tw7579399772596731597 tw7530180391437707374 tw1131270641950774158 tw13077060970563020024 tw12846514211290154622 tw9293136868617119307 tw14142262099490099084 tw360387204294870468 tw13137949233353767293 tw9387000858883212924 tw6220099411551954163 tw5089111964775395775 tw16353846161111521581 tw3673792986756298700 tw17779454392756140143 tw9690716544811841502 tw9754963033632784411 tw13069499543937369599 tw9002914301568862500 tw3713164877203984972 tw4635363631616234398 tw16504024744202060096 tw2911079700326373341 tw12872864206748032970 tw13685058259817748954 tw8923596162686072653 tw10800320049392271860 tw6627143277993201743 tw15005361894347386306 tw11305976763752671301 tw4189760650813953817 tw9336036407583628419 tw6329854156742672577 tw5004353674685468608 tw7445885136421657118 tw3981715581809373165 tw145796284181872285 tw85004741493645937 tw6167297164492166945 tw8140650453383652885 tw12030357680247181861 tw13457023654432120296 tw4251535586635360145 tw15859028582184472594 tw1593763598585012204 tw10858544078271520780 tw619088457878622836 tw2029579796985403006 tw16952542130999469607 tw7564574128117293467 tw8127828385866497606 tw17906835216805978788 tw2990685742387953878 tw12003074531581400931 tw7568316812019789266 tw3059851073990676382 tw17057601735643458979 tw13670374120566193823 tw3417885246065764769 tw3406013205277995346 tw2831506100333953076 tw8082454353868038056 tw7216528557774085213 tw8536169232534076810 tw10293057950423368764 tw15743618752680632931 tw16295446802646590402 tw12179425990356444920 tw7916479437874624281 tw2167284491866080723 tw5299510306201668844 tw4401105219382375504 tw16397935232149291161 tw1323848559916520924 tw6477027760394497852 tw7039216704943316238 tw377924669861260717 tw13955719990506146729 tw17190732039147181299 tw15874275463742058887 tw4266202574353349029 tw17942392830294715524 tw11600691792549084242 tw4914427702160204684 tw8705436819128247461 tw15137355843192637367 tw3408676116803922683 tw15420422429323008224 tw15007959766044215360 tw9102151132807978478 tw6005405991321868177 tw2873085424983346263 tw7167533239670188623 tw8592165960077681141 tw3209237238447896125 tw10255356756797327096 tw13435758816315472310 tw7563101180307517659 tw3973968544688299615 tw526873180898943616 tw16776459453736169474 tw17175099990195888897 tw4741929839377578089 tw9403560339075257681 tw13274765205634259978 tw15293240680026312695 tw5261291972221919468 tw13172980165229638868 tw15523063285923186110 tw7217045297159735568 tw3823057288811582940 tw11043270512567222784 tw2597149079485660226 tw5199255356093028323 tw11324148625808156553 tw3877013262946383262 tw913356812494630700 tw4523259607427119540 tw7247258105190693183 tw2819836861775364710 tw7462469244966218767 tw12786810865395878696 tw8226264279776990483 tw2697717340565327437 tw7679359223388075662 tw2179363561527429891 tw6385706118862176451 tw1612043590289376663 tw17083960419461090133 tw4029538104646098161 tw17397183264114232968 tw12671075845956688899 tw9244709009353002872 tw14215540768273881192 tw8501304643947366287 tw11532185080367620628 tw11460988560354388672 tw9324828548466367172 tw13406996592041558795 tw5677913719489942295 tw15682264868049701991 tw4302473225616179643 tw10036686181732189307 tw10784955197514299178 tw1181926088798341595 tw9333656178412102604 tw12184387370612764049 tw15081356630349631244 tw3887762785375827256 tw2699318404647537146 tw12624410659431011566 tw15078172011116730898 tw18222720174377902828 tw7010092195588227295 tw1438438356463852330 tw12585969462480434470 tw5582226527786595330 tw14792370276728137953 tw7028436694090506744 tw3006732749010167659 tw17345873910142686501 tw13435141269463431997 tw8018539540595874378 tw14372992947763246946 tw16669169320117480451 tw11915940035459252840 tw8064439763111354 tw2239446375813171316 tw10109357037951266778 tw688525881627285993 tw10763831341692630229 tw9387980484934664321 tw9729195474400156052 tw13730656628033454907 tw559363926551155932 tw6960892672562955143 tw13656792886412709273 tw11685490081009106990 tw10959064438218601143 tw6996292610541485485 tw8949945542601674063 tw11012589148943709985 tw7980863756570475654 tw12697016289079720589 tw17615049507482434619 tw14171504789640813271 tw11611793589213885797 tw1633066089118558390 tw5213377325305628778 tw17887981536287537122 tw5001871843453002672 tw9770939413909442819 tw7955141810464673795 tw10630712515940308620 tw11382121721111034869 tw16157624922048649657 tw9595434284549612273 tw16187738636902166737 tw9170024449475542076 tw16962868373252232168 tw7891301024000031044 tw1723074167685588288 tw13497994261171441104 tw6455077133012139563 tw10138995884957917806 tw16278780983782290489 tw8319371232924494535 tw15341345494697203549 tw17540279998322374167 tw6338952981612319992 tw2548511738697143580 tw6789110786768460798 tw1632705175263726456 tw8606618298247093383 tw17040791145430110557 tw17395782495099029223 tw11383471590008313804 tw8639058049390523423 tw11302831250604668362 tw17920205247110752329 tw17651548537075508041 tw8254669180428732042 tw5046987339974335042 tw9772918123396055532 tw8253710266531473763 tw10218338564452897779 tw681026223063169331 tw3840600940350986969 tw5810565717649341799 tw16623827256812479684 tw15968686768556861413 tw15102674612890442983 tw15656092555254794298 tw11664161299568602177 tw13471510768385033988 tw7580947632885394005 tw14206962465789377932 tw6206363203259984111 tw4354305572264550570 tw4034198322878423052 tw10051897729359247484 tw7110927612190094928 tw2832138479537929346 tw2887175512586353058 tw15786790730038084107 tw7435262495234886593 tw2859703224584137837 tw12323129891104418024 tw2305822219564802665 tw1411847445562618332 tw8708290395718236118 tw1778158267244661961 tw13411465221652825591 tw4224363104928975185 tw13043041721793729380 tw6735986534307950425 tw131158158785425778 tw3136888115509318573 tw8049936562900250040 tw3678591437209277115 tw7960877054861749146 tw17657940543120867771 tw8845536377750849155 tw4963185386881745287 tw11039187145589398145 tw11004010413189830893 tw5867990161711847212 tw14941673988539387024 tw10863628421778089071 tw7452839565580480448 tw14252355824085578980 tw5681442326068689896 tw5131161913563473345 tw11116496890172074648 tw17559762010347657435 tw3708397256607594235 tw1941963802627106917 tw10257056442574213624 tw10920850994841042440 tw16148097291082892453 tw10547202897410123270 tw15957031280647677085 tw16423142024911315093 tw16974695751845569279 tw12327886212866468481 tw17965251935088676492 tw17688517853229507861 tw53186158623029760 tw569438790341396917 tw13568514905528550036 tw7571986662091413934 tw15714133061003093975 tw2821335110905188694 tw17329374847873516698 tw2097337674707062748 tw12347983663951919153 tw9725938213744829059 tw12156000516073659955 tw18150822102113034409 tw3274115955489460909 tw3498688688178950329 tw17064249839053684370 tw17298736937363520388 tw4298418012164108388 tw3888757380185963141 tw1682497023842352125 tw2775161293376407126 tw10704785350289147011 tw5897752484958747014 tw7157956762224180327 tw16349135535215742170 tw3979205469149562076 tw6991565366593709797 tw15301679433543953239 tw13377837398730617213 tw16348031980659975332 tw2047819023069613160 tw13742886112006726003 tw16155527937608194816 tw11919347459819757968 tw11772361309854776819 tw11823023406642804876 tw15745182243889058612 tw15654256461583517911 tw18212778881741706986 tw16811067051902075272 tw6135147253951467114 tw16053761151953211598 tw7344549482578333418 tw8103905134243957825 tw13319608206323770014 tw5750561646182979690 tw3183215715552787441 tw17527067167556566482 tw14151311178302398592 tw14575998176731607403 tw4127104781656351152 tw3323323783260185032 tw1229573135174203121 tw16131191360263722896 tw2715389508718527739 tw4859005967632516476 tw9572426076784974404 tw18249639229192510313 tw1938173574785118324 tw12720354608054671300 tw2105566980819402786 tw1839822866822350246 tw2224707243805520980 tw10874655397210742306 tw4139970813133720439 tw8571471329614079115 tw8431792056400455409 tw13394041949935769889 tw17104159456786165519 tw11908617137146267931 tw13678238566948494413 tw11845583893155251489 tw666866803286514417 tw5972293780649776138 tw10948212401216290627 tw16581720595051622674 tw14306940130581205556 tw5763241791240734892 tw7119670976172603590 tw298339750783097115 tw9441697681527417862 tw3798019841404641162 tw2419826743142337214 tw11641858864629725278 tw11993521774795538419 tw4134065399736442251 tw10068329438988617988 tw15088253762551261047 tw6976783854985370721 tw14847170687693825307 tw8407360145660851659 tw11812361613700551719 tw3899864397104087724 tw3219057893807282171 tw5469001668929328926 tw3332960644190918439 tw6123946460985260249 tw13829585789359312400 tw17205197271243024207 tw12085541462521117519 tw16255310833170482669 tw5021941902119066860 tw190982131161547033 tw16073914620820703288:True)
open PySem PySem.W PyProof.Rows
set_option maxRecDepth 100000 in
set_option maxHeartbeats 0 in
theorem PySem.Challenge.cw_fewnotes_k55_twins_of_replays_holds : PySem.Challenge.rw_fewnotes_k55_twins_of_replays.Holds := by
 w_on;o_law;k_head;(case hw=>w_witness2)
 k_fill
 refine Prf.walk (l:=PySem.Challenge.rw_fewnotes_k55_twins_of_replays) rfl rfl (fun w h Y=>PySem.W.kIn_of Y) ?F
 case F=>
  intro w mg fa h KX G hmg
  replace hmg:mg (Str.ofString "law")=some (.ref fa):=hmg
  refine' Prf.all_mk KX G hmg ?HB ?ig ?wB ?Fg ?zH ?wI ?ycg ?wK ?wJ ?qd ?wN ?Fo ?mF ?oK ?wM ?gW ?fQ ?fU ?jf ?xcc ?p7 ?wL ?Fi ?zQ ?zP ?zN ?zT ?uH ?zJ ?zK ?zL ?zR ?zM ?Fj ?zO ?GZ ?GX ?i_ ?q0 ?q1 ?q2 ?q3 ?q4 ?q5 ?q6 ?q7 ?q8 ?q9 ?Qo ?q11 ?q12 ?a13 ?l13 ?c13 ?k13 ?n13 ?HW ?q14 ?q15 ?q16 ?q17 ?q18 ?q19 ?q20 ?q21 ?q22 ?q23 ?q24 ?q25 ?q26 ?q27 ?q28 ?q29 ?q30 ?q31 ?q32 ?q33 ?q34 ?q35 ?q36 ?q37 ?q38 ?q39 ?q40 ?q41 ?q42 ?q43 ?q44 ?q45 ?q46 ?q47 ?q48 ?q49 ?q50 ?q51 ?q52 ?q53 ?q54 ?q55 ?q56 ?q57 ?zb
  (case HB|ig|wB=>constructor<;>k_is)
  (case Fg=>refine' ⟨?_,?_,?_,?_,?_,trivial⟩<;>k_is)
  (case zH|wI=>refine' ⟨?_,?_,?_,?_,trivial⟩<;>k_is)
  (case ycg=>constructor<;>k_is)
  (case wK|wJ=>k_is)
  (case qd|wN|Fo|mF|oK|wM=>constructor;k_is;rfl;k_is;k_is)
  (case gW|fQ|fU|jf=>constructor;rfl;k_is)
  (case xcc=>constructor<;>k_is)
  (case p7|wL|Fi=>constructor;k_is;k_is;k_is;k_is;k_is;k_is;k_exc)
  (case zQ|zP|zN|zT|uH|zJ|zK=>k_is)
  (case zL=>rfl)
  (case zR|zM=>k_is)
  (case Fj=>rfl)
  (case zO|GZ|GX|i_=>k_is)
  (case q0|q1=>apply L2.Rg<;>k_is)
  (case q2=>apply L2.Wj<;>k_is)
  (case q3=>apply L2.Rg<;>k_is)
  (case q4|q5|q6|q7|q8=>apply L2.Wj<;>k_is)
  (case q9=>apply L2.Rg<;>k_is)
  (case Qo|q11|q12=>apply L2.Wj<;>k_is)
  (case a13|l13|c13|k13|n13|HW=>k_is)
  (case q14|q15|q16|q17|q18|q19|q20|q21=>apply L2.Rg<;>k_is)
  (case q22|q23|q24|q25|q26|q27|q28|q29=>apply L2.Wj<;>k_is)
  (case q30|q31|q32|q33|q34|q35|q36|q37|q38|q39=>apply L2.Rg<;>k_is)
  (case q40|q41|q42|q43|q44|q45|q46|q47|q48|q49|q50|q51=>apply L2.Wj<;>k_is)
  (case q52|q53|q54|q55|q56|q57=>apply L2.Rg<;>k_is)
  (case zb=>refine' ⟨?_,?_,?_,?_,?_,?_,?_,?_,?_,?_,?_,?_,?_,?_,?_,?_,?_,trivial⟩<;>k_is)
#print axioms PySem.Challenge.cw_fewnotes_k55_twins_of_replays_holds
