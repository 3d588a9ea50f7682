import PyProof.Rows.All
import Wide.All
import OpenK.AllK
import Wide.FinOn
import Lean
import PyProof.EqAt
import PyProof.EqKinds
import PyProof.TupleCall
import PyProof.EqLayable
import PyProof.ExcArgsOwn
import PyProof.ExcAttrAll.Exception
import PyProof.RulesAs
import PyProof.ExcBaseAll.ValueError
import PyProof.NsDelKeeps
import KE.KRevSl
import OpenK.KOps
import OpenK.KWalk
import PyProof.TupleIter
import PyProof.ZipIter
import PyProof.ExcClass3
import PyProof.InstStoreFacts
import KE.KLam
import KE.KNestM
import KE.KMinKey
import PyProof.NeKinds
import PySem.Challenge.RW_fewnotes_k54_whole_two_begun_amid
set_option Elab.async false
set_option linter.all false
set_option maxRecDepth 100000
noncomputable section
def LZ{p:Prop}(h:p:=by lia):p:=h
def DZ{p:Prop}(h:p:=by decide):p:=h
def oZR{p:Prop}(h:p:=by rfl):p:=h
def MZ{p:Prop}(h:p:=by simp):p:=h
def ZN{p:Prop}(h:p:=by intro z;cases z):p:=h
def XZ{p:Prop}(h:p:=by intro xs z;cases z):p:=h
def ZY{p:Prop}(h:p:=by intro d z;cases z):p:=h
def sZ0:0<=PySem.sizeLine:=by decide
def sZ1:1<=PySem.sizeLine:=by decide
def sZ2:2<=PySem.sizeLine:=by decide
def sZ3:3<=PySem.sizeLine:=by decide
def sZ4:4<=PySem.sizeLine:=by decide
def sZ5:5<=PySem.sizeLine:=by decide
section
open PySem PySem.Spec PyProof.Rows
theorem Z {α:Sort _} {a:α}:a=a:=rfl
def aak:=@List.length_map
def aal:=@List.getElem?_eq_getElem
def aam:=@List.getElem?_eq_some_iff
def aap:=@List.getElem?_map
def aaq:=@Heap.get?_push_of_some
def aar:=@Heap.get?_push_size
def aas:=@Heap.lt_size
def aav:=@Nat.le_refl
def aaB:=@wpAny_bind
def aaD:=@wpAny_pure
def aaE:=@wpS_bind
def aaF:=@wpS_pure
def aaG:=@Array.length_toList
def aaN:=@List.mem_of_getElem?
def aaO:=@decide_eq_true
def aaP:=@decide_eq_false
def aaQ:=@of_decide_eq_true
def aaT:=@Bool.false_ne_true
def aaX:=@List.size_toArray
def aaY:=@Option.some.inj
def aa1:=@List.length_append
def aa5:=@List.getElem?_append_right
def aa6:=@List.getElem?_append_left
def aa7:=@Nat.ne_of_lt
def aa_:=@Nat.lt_of_lt_of_le
def abd:=@List.map_append
def abf:=@Int.toNat_natCast
def abt:=@Bool.and_eq_true
def abz:=@List.mem_cons_of_mem
def abA:=@List.mem_append
def abE:=@List.mem_map
def ab7:=@List.mem_singleton
def acg:=@List.take_length
def acj:=@List.length_singleton
def acq:=@List.take_add_one
def acr:=@List.map_map
def acF:=@List.length_set
def acH:=@List.length_take
def acJ:=@List.mem_filter
def acS:=@List.mem_range
def acT:=@List.filter_cons
def ac8:=@List.length_cons
def adb:=@List.getElem_of_mem
def adh:=@Int.eq_ofNat_of_zero_le
def adk:=@Nat.lt_irrefl
def adl:=@Nat.le_trans
def adn:=@Nat.le_of_lt
def ado:=@List.filter_append
def adp:=@if_neg
def adq:=@if_pos
def adt:=@absurd
abbrev zzy:=PySem.W.Frag
abbrev zzx:=Value->Shared->Prop
abbrev zzw:=List (Addr×Obj)
abbrev zzv:=Str->Option Value
abbrev zzu:=Unit->Shared->Prop
abbrev zzt:=List Value
abbrev zzs:=FuncData
abbrev zzr:=Option Nat->SortSt->Prop
end
variable{bmB its its' us:zzt}{C CH CW D Dc L a aC ak aq b bQ bW bw cZ d f it l1 l2 p sl sm tl:PySem.Addr}{cd cdv ct doc oc pm u vl vu:PySem.Value}{P q:PySem.Program}{w:PySem.World}{base h' h0 h1:PySem.Heap}{cn name qual x:PySem.Str}{c e iter tg value:PySem.Expr}{caps o':List Nat}{ob oe ox:PySem.Obj}{pY pins:zzw}{s s':PySem.Shared}{ac bc hi i ia ib ii j k m n na nb nrem t' tn x1:Nat}{ch fp rs tls:List PySem.Addr}{N XN loose own ps:List PySem.Str}{A:PySem.Around}{E Q:zzx}{apos cpos hpos p2 pos pos' tpos:PySem.Pos}{K:zzy}{b0 st:PySem.Stmt}{elts es ifs:List PySem.Expr}{op:PySem.Operator}{body suite:List PySem.Stmt}{lo:PySem.Addr->Prop}{ahq an dx od td:Option PySem.Addr}{mA:zzv}{expr few:Bool}{cs gs ns:List Int}{kw:List (PySem.Str×PySem.Value)}{env:PySem.Env}{outer:List PySem.Env}{fd:zzs}{ds:List PySem.PyData}{nm:Option PySem.Str}{QB adV ahL osl:Array (Option PySem.Value)}{T newId:String}{items:Array PySem.Value}{XP:(PySem.Str->Option PySem.Value)->PySem.Heap->Prop}{YP:PySem.World->PySem.Heap->Prop}{B:Prop}{odo:Option PySem.Obj}{fl:Option PySem.Value}{φ:PySem.Heap->Prop}{kf:Nat->List Int}{pd:Array (Nat×Nat×Nat)}{rk:PySem.Value->Nat}{T':Nat->Prop}
namespace L2
open PySem PySem.Spec PyProof.Rows
abbrev Key:=Sum Int Str
def Eo:Key->Value->Bool
 | .inl k,v=>Value.isInt k v
 | .inr x,v=>Value.isStrOf x v
def aja(w:World):Key->Int
 | .inl k=>hashInt k
 | .inr x=>hashStr w x
def eY:∀{k:Key}{v:Value},Eo k v=true->(∃i t,k=Sum.inl i/\v=Value.int i t)\/(∃x t,k=Sum.inr x/\v=Value.str x t)
 | .inl i,v,h=>by obtain⟨t,e⟩:=Value.isInt_shape (k:=i) (v:=v) h;exact .inl ⟨i,t,Z,e⟩
 | .inr x,v,h=>by obtain⟨t,e⟩:=Value.isStrOf_shape (x:=x) (v:=v) h;exact .inr ⟨x,t,Z,e⟩
def Ri(i:Int)(t:Tok):Eo (.inl i) (.int i t)=true:=by simp[Eo,Value.isInt]
def Rh(x:Str)(t:Tok):Eo (.inr x) (.str x t)=true:=by simp[Eo,Value.isStrOf]
def acw(a b:Int):decide ((Sum.inl a:Key)=Sum.inl b)=(a==b):=by
 by_cases e:a=b
 .subst e;simp
 .have h:¬(Sum.inl a:Key)=Sum.inl b:=λq=>e (Sum.inl.inj q)
  rw[aaP h];exact(beq_eq_false_iff_ne.mpr e).symm
def acs(a b:Str):decide ((Sum.inr a:Key)=Sum.inr b)=decide (a=b):=by
 by_cases e:a=b
 .subst e;simp
 .have h:¬(Sum.inr a:Key)=Sum.inr b:=λq=>e (Sum.inr.inj q)
  rw[aaP h,aaP e]
def acv(a:Int)(b:Str):decide ((Sum.inl a:Key)=Sum.inr b)=false:=aaP (λq=>nomatch q)
theorem acu(a:Str)(b:Int):decide ((Sum.inr a:Key)=Sum.inl b)=false:=aaP (λq=>nomatch q)
def fX(prog:Program)(w:World):PySem.KeyKind prog w Key where
 is:=Eo
 hash:=aja w
 inj:=λv a b l f=>by
  rcases eY l with ⟨i,t,rfl,rfl⟩|⟨x,t,rfl,rfl⟩
  .rcases eY f with ⟨j,u,rfl,e⟩|⟨y,u,rfl,e⟩
   .injection e with c _;rw[c]
   .exact nomatch e
  .rcases eY f with ⟨j,u,rfl,e⟩|⟨y,u,rfl,e⟩
   .exact nomatch e
   .injection e with c _;rw[c]
 byValue:=λk v h=>by rcases eY h with ⟨i,t,rfl,rfl⟩|⟨x,t,rfl,rfl⟩<;>rfl
 pyHash:=λd h=>by
  rcases eY d with ⟨i,t,rfl,rfl⟩|⟨x,t,rfl,rfl⟩
  .exact wpAny_pyHash_int h
  .exact wpAny_pyHash_str h
 eqBool:=λg d h=>by
  rcases eY g with ⟨i,t,rfl,rfl⟩|⟨x,t,rfl,rfl⟩
  .rcases eY d with ⟨j,u,rfl,rfl⟩|⟨y,u,rfl,rfl⟩
   .rw[acw] at h;exact wpAny_eqBool_int h
   .rw[acv] at h;exact SeqAt.EqAt.int_str i t y u _ _ _ _ h
  .rcases eY d with ⟨j,u,rfl,rfl⟩|⟨y,u,rfl,rfl⟩
   .rw[acu] at h;exact SeqAt.EqAt.str_int x t j u _ _ _ _ h
   .rw[acs] at h;exact wpAny_eqBool_str h
 «strs» :=λk x t v h=>by
  rcases eY h with ⟨i,u,rfl,e⟩|⟨y,u,rfl,e⟩
  .exact nomatch e
  .injection e with c _
   subst c;cases v<;>rfl
def Jp(prog:Program)(w:World)(i:Int)(t:Tok):(fX prog w).is (.inl i) (.int i t)=true:=Ri i t
def Jo(prog:Program)(w:World)(x:Str)(t:Tok):(fX prog w).is (.inr x) (.str x t)=true:=Rh x t
inductive V where
 | non|bl (b:Bool)|int (i:Int)|str (x:Str)|Mw (b:Array UInt8)|flt (b:UInt64)|ref (a:Addr)|ty (n:String)
 deriving DecidableEq
def RelV:V->Value->Prop
 | .non,u=>u=Value.none
 | .bl b,u=>u=Value.bool b
 | .int i,u=>∃t,u=Value.int i t
 | .str x,u=>∃t,u=Value.str x t
 | .Mw b,u=>∃t,u=Value.bytes b t
 | .flt b,u=>∃t,u=Value.float b t
 | .ref a,u=>u=Value.ref a
 | .ty n,u=>u=Value.type n
abbrev Vals:List V->List Value->Prop:=Paired RelV
theorem Vals.length{xs:List V}{us:zzt}(r:Vals xs us):xs.length=us.length:=Paired.length r
theorem Vals.get:∀{xs:List V}{us:zzt}{i:Nat}{x:V},Vals xs us->xs[i]?=some x -> ∃u,us[i]?=some u/\RelV x u
 | _,_,_,_,.nil,e=>by simp at e
 | _,_,0,_,.cons r _,e=>by simp at e;subst e;exact⟨_,Z,r⟩
 | _,_,i+1,x,.cons _ t,e=>by obtain⟨u,h1,a⟩:=Vals.get (i:=i) (x:=x) t (by simpa using e);exact⟨u,by simpa using h1,a⟩
theorem Vals.set{x:V}{u:Value}(r:RelV x u):∀{xs:List V}{us:zzt}(i:Nat),Vals xs us->Vals (xs.set i x) (us.set i u)
 | _,_,_,.nil=> .nil
 | _,_,0,.cons _ t=> .cons r t
 | _,_,i+1,.cons q t=> .cons q (Vals.set r i t)
def Vals.append{xs ys:List V}{ws:zzt}(h:Vals xs us)(s:Vals ys ws):Vals (xs++ys) (us++ws):=by
 induction h with
 | nil=>exact s
 | cons r t a=>exact .cons r a
theorem Vals.take:∀{xs:List V}{us:zzt}(n:Nat),Vals xs us->Vals (xs.take n) (us.take n)
 | _,_,0,_=> .nil
 | _,_,_+1,.nil=> .nil
 | _,_,n+1,.cons r t=> .cons r (Vals.take n t)
theorem Vals.drop:∀{xs:List V}{us:zzt}(n:Nat),Vals xs us->Vals (xs.drop n) (us.drop n)
 | _,_,0,r=>r
 | _,_,_+1,.nil=> .nil
 | _,_,n+1,.cons _ t=>Vals.drop n t
def nM:Option V->Option Value->Prop
 | some v,some u=>RelV v u
 | none,none=>True
 | _,_=>False
def KV{κ:Type}:List (κ×V)->List (κ×Value)->Prop:=Paired λ(p:κ×V) (q:κ×Value)=>p.1=q.1/\RelV p.2 q.2
def kV:Key->V
 | .inl i=> .int i
 | .inr x=> .str x
inductive HO where
 | lst (xs:List V)
 | tup (xs:List V)
 | dK (kvs:List (Key×V))|dT (kvs:List (List Key×V))
 | set (S:Int->Bool) (n:Nat)
 | ins (C dx:Addr) (fs:List (Str×V))
 | own (x:Addr)
 | xd (fs:List (Str×V))
 | met (f x:Addr)
 | rng (lo hi:Int)
 | JG (o:Obj) (u:HO)
 | tbl (ps:Array Value)
 | ext (φ:Heap->Prop)
abbrev Hp:=Addr->Option HO
def upd(H:Hp)(a:Addr)(o:HO):Hp:=λb=>if b=a then some o else H b
def ao{H:Hp}{o:HO}:upd H a o a=some o:=by unfold upd;rw[adq rfl]
def aF{H:Hp}{o:HO}(h:b≠a):upd H a o b=H b:=by unfold upd;rw[adp h]
def dG{H:Hp}{o u:HO}(h:H a=some o)(h':H b=some u)(d:o≠u):a≠b:=by intro e;subst e;rw[h] at h';exact d (aaY h')
def aB{H:Hp}{o:HO}(h:H a=some o)(h':H b=none):a≠b:=by intro e;subst e;rw[h] at h';cases h'
section
variable(P:Program)(w:World)
def dU(H:Hp)(h:Heap)(a:Addr):HO->Prop
 | .lst xs=>xs.length<=sizeLine /\ ∃(its:zzt) (n:Nat),Vals xs its/\h.get? a=some {cls:= .type "list",data:= .seq its.toArray n}
 | .tup xs=>xs.length<=sizeLine /\ ∃its:List Value,Vals xs its/\IsTup h a its.toArray
 | .dK b=>b.length<=sizeLine/\(a==sysModules)=false /\ ∃vs,KV b vs/\h.DictOf (fX P w) a vs
 | .dT b=>b.length<=sizeLine/\(a==sysModules)=false /\ ∃xs:List (List Key×Addr×Value),
    Paired (λ(p:List Key×V) (q:List Key×Addr×Value)=>p.1=q.1/\H q.2.1=some (.tup (p.1.map kV))/\RelV p.2 q.2.2) b xs /\
    ∃o es e,h.get? a=some o/\o.ExactDict/\o.data=.dict es e/\es.toList=xs.map (entryOfKey (tupleKind (fX P w)))/\(xs.map (·.1)).Nodup
 | .set S n=>h.SetOf (intKind P w) a S n
 | .ins C dx c=>H dx=some (.own a)/\c.length<=1000/\dx≠a/\h.get? a=some (W.instObj C dx) /\∃mA,h.Ns1 dx mA/\(∀f,nM (c.lookup f) (mA f))/\PySem.Within mA (c.map (·.1))
 | .own _=>∃o,h.get? a=some o
 | .xd c=>∃mA,h.Ns1 a mA /\ ∀f,nM (c.lookup f) (mA f)
 | .rng lo hi=>∃t u v,h.get? a=some {cls:= .type "range",data:= .fields #[.int lo t,.int hi u,.int 1 v]}
 | .JG o u=>h.get? a=some o/\dU H h a u
 | .tbl ps=>h.get? a=some {cls:= .none,data:= .fields ps}
 | .met f x=>h.get? a=some (W.methodObj (.ref f) (.ref x))
 | .ext φ=>φ h/\(∃o,h.get? a=some o) /\ ∀h1 d:Heap,φ h1->(∀o,h1.get? a=some o->d.get? a=some o)->φ d
def tG(H:Hp)(h:Heap):Prop:=∀a o,H a=some o->dU P w H h a o
end
section
variable{H H':Hp}{h:Heap}{o:HO}
theorem dU.lt(x:dU P w H h a o):a<h.objs.size:=by
 cases o with
 | lst c=>obtain⟨_,_,_,_,e⟩:=x;exact aas e
 | tup c=>obtain⟨_,_,_,p⟩:=x;exact p.lt
 | dK b=>obtain⟨_,_,_,_,o,_,_,e,_⟩:=x;exact aas e
 | dT b=>obtain⟨_,_,_,_,o,_,_,e,_⟩:=x;exact aas e
 | set S n=>obtain⟨o,_,_,_,e,_⟩:=x;exact aas e
 | ins C m d=>obtain⟨_,_,_,e,_⟩:=x;exact aas e
 | own y=>obtain⟨_,e⟩:=x;exact aas e
 | xd d=>obtain⟨_,⟨_,_,_,e,_⟩,_⟩:=x;exact aas e
 | rng k l=>obtain⟨_,_,_,e⟩:=x;exact aas e
 | JG j u=>obtain⟨e,_⟩:=x;exact aas e
 | tbl i=>exact aas (show h.get? a=some _ from x)
 | met f y=>exact aas (show h.get? a=some _ from x)
 | ext g=>obtain⟨_,⟨_,e⟩,_⟩:=x;exact aas e
def Paired.aeI{α β:Type}{F G:α->β->Prop}:∀{d:List α}{c:List β},Paired F d c->(∀a b,F a b->G a b)->Paired G d c
 :=by
 intro d c h f
 induction h with
 | nil=>exact .nil
 | cons r t e=>exact .cons (f _ _ r) e
def dU.stay(x:dU P w H h a o)(k:∀b u,(b=a\/H b=some (.own a))->h.get? b=some u->h'.get? b=some u)(I:∀b,H b=some (.own a)->H' b=some (.own a))(G:∀b xs,H b=some (.tup xs)->H' b=some (.tup xs)):dU P w H' h' a o:=by
 induction o with
 | lst xs=>obtain⟨z,l,n,r,e⟩:=x;exact⟨z,l,n,r,k _ _ (.inl rfl) e⟩
 | tup xs=>obtain⟨z,l,r,g,e,c⟩:=x;exact⟨z,l,r,g,k _ _ (.inl rfl) e,c⟩
 | dK A=>obtain⟨z,y,E,r,g,i,j,e,c⟩:=x;exact⟨z,y,E,r,g,i,j,k _ _ (.inl rfl) e,c⟩
 | dT A=>
   obtain⟨z,y,xs,r,g,i,j,e,c⟩:=x;exact⟨z,y,xs,Paired.aeI r λp q z=>⟨z.1,G _ _ z.2.1,z.2.2⟩,g,i,j,k _ _ (.inl rfl) e,c⟩
 | set S n=>obtain⟨g,i,j,t,e,c⟩:=x;exact⟨g,i,j,t,k _ _ (.inl rfl) e,c⟩
 | ins C O J=>
   obtain⟨d,z,ne,e,s,⟨m,i,j,K,c⟩,r⟩:=x;exact⟨I _ d,z,ne,k _ _ (.inl rfl) e,s,⟨m,i,j,k _ _ (.inr d) K,c⟩,r⟩
 | own y=>obtain⟨g,e⟩:=x;exact⟨g,k _ _ (.inl rfl) e⟩
 | xd J=>obtain⟨s,⟨m,i,j,e,c⟩,r⟩:=x;exact⟨s,⟨m,i,j,k _ _ (.inl rfl) e,c⟩,r⟩
 | rng M N=>obtain⟨t,u,v,e⟩:=x;exact⟨t,u,v,k _ _ (.inl rfl) e⟩
 | JG g u F=>obtain⟨e,q⟩:=x;exact⟨k _ _ (.inl rfl) e,F q⟩
 | tbl D=>
   have e:h.get? a=some {cls:= .none,data:= .fields D}:=x;show h'.get? a=some {cls:= .none,data:= .fields D};exact k a _ (.inl rfl) e
 | met f y=>
   have e:h.get? a=some (W.methodObj (.ref f) (.ref y)):=x;show h'.get? a=some (W.methodObj (.ref f) (.ref y));exact k a _ (.inl rfl) e
 | ext L=>obtain⟨p,⟨o,e⟩,B⟩:=x;exact⟨B _ _ p λo q=>k _ _ (.inl rfl) q,⟨o,k _ _ (.inl rfl) e⟩,B⟩
theorem tG.lt(x:tG P w H h)(e:H a=some o):a<h.objs.size:=(x a o e).lt
def tG.fresh(x:tG P w H h)(e:h.objs.size<=a):H a=none:=by
 cases q:H a with
 | none=>rfl
 | some u=>exact adt (aa_ (x.lt q) e) (adk _)
def tG.kept(x:tG P w H h)(k:∀b u,h.get? b=some u->h'.get? b=some u):tG P w H h':=λa o e=>
 (x a o e).stay (λb u _ q=>k b u q) (λ_ q=>q) λ_ _ q=>q
def tG.laid(x:tG P w H h)(k:∀b u,h.get? b=some u->h'.get? b=some u)(g:h.objs.size<=a)(new:dU P w (upd H a o) h' a o):tG P w (upd H a o) h':=λb u e=>by
 have d:=x.fresh g
 by_cases f:b=a
 .subst f;rw[ao] at e;cases e;exact new
 .rw[aF f] at e
  exact(x b u e).stay (λc v _ q=>k c v q) (λc q=>by rw[aF (aB q d)];exact q) λc i q=>by rw[aF (aB q d)];exact q
end
def Rd(H:Hp)(a:Addr)(u:HO):Prop:=H a=some u \/ ∃o,H a=some (.JG o u)
def Rd.ok{H:Hp}{h:Heap}{u:HO}(r:Rd H a u)(x:tG P w H h):dU P w H h a u:=by
 rcases r with r|⟨o,r⟩
 .exact x a u r
 .obtain⟨_,q⟩:=x a _ r
  exact q
def Mut:Option HO->Prop
 | some (.lst _)=>True
 | some (.dK _)=>True
 | some (.dT _)=>True
 | some (.set _ _)=>True
 | some (.ins _ _ _)=>True
 | some (.ext _)=>True
 | _=>False
section
variable{H:Hp}{h:Heap}{x e:Addr}{o':HO}
def tG.write(ok:tG P w H h)(g:Mut (H x))(he:e=x\/H e=some (.own x))(k:∀b u,b≠e->h.get? b=some u->h'.get? b=some u)(l:∃u,h'.get? e=some u)(new:dU P w (upd H x o') h' x o'):tG P w (upd H x o') h':=λb u q=>by
 have d:∀c y,H c=some (.own y)->c≠x:=λc y r z=>by subst z;rw[r] at g;exact g
 have m:∀c f,H c=some (.tup f)->c≠x:=λc f r z=>by subst z;rw[r] at g;exact g
 by_cases j:b=x
 .subst j;rw[ao] at q;cases q;exact new
 .rw[aF j] at q
  by_cases a:b=e
  .have n:H b=some (.own x):=by
    rcases he with z|z
    .exact adt (a.trans z) j
    .rw[a];exact z
   rw[q] at n;cases n;obtain⟨v,o⟩:=l;exact⟨v,by rw[a];exact o⟩
  .refine(ok b u q).stay (λc v i r=>k c v ?_ r) (λc r=>by rw[aF (d c b r)];exact r) λc f r=>by rw[aF (m c f r)];exact r
   rcases i with rfl|i
   .exact a
   .rintro rfl
    rcases he with z|z
    .exact d c b i z
    .rw[i] at z;cases z;exact j rfl
end
structure Un(fs ex:List Addr)(H H':Hp)(h h':Heap):Prop where
 keep:∀b o,h.get? b=some o->H b=none->b∉fs->b∉ex->h'.get? b=some o
 slot:∀b o,h.get? b=some o->H b=none->b∈fs->b∉ex -> ∃sl,h'.get? b=some {o with slots:=sl}
 free:∀b o,h.get? b=some o->H b=none->b∉ex->H' b=none
 there:∀b o,h.get? b=some o->b∉ex -> ∃o',h'.get? b=some o'
 tups:∀b xs,H b=some (.tup xs)->H' b=some (.tup xs)
 vM:∀b o u,H b=some (.JG o u)->H' b=some (.JG o u)
 wI:∀b ps,H b=some (.tbl ps) -> ∃more,H' b=some (.tbl (ps++more))
section
variable{fs fs' ex ex':List Addr}{H H1 H2:Hp}{h h2:Heap}{x e:Addr}{o:HO}
def Un.any(u:Un fs ex H H1 h h1)(q:h.get? b=some ob)(n:H b=none)(a:b∉ex):∃sl,h1.get? b=some {ob with slots:=sl}:=by
 by_cases c:b∈fs
 .exact u.slot b ob q n c a
 .exact⟨ob.slots,u.keep b ob q n c a⟩
def Un.kept(k:∀b u,h.get? b=some u->h'.get? b=some u):Un fs ex H H h h':=⟨λb a q _ _ _=>k b a q,λb a q _ _ _=>⟨a.slots,k b a q⟩,λ_ _ _ n _=>n,λb a q _=>⟨a,k b a q⟩,λ_ _ q=>q,λ_ _ _ q=>q,λ_ c q=>⟨#[],by rw[q];simp⟩⟩
def Un.refl:Un fs ex H H h h:=Un.kept λ_ _ q=>q
def Un.laid(k:∀b u,h.get? b=some u->h'.get? b=some u)(e:h.objs.size<=a)(c:H a=none):Un fs ex H (upd H a o) h h' where
 keep:=λb u q _ _ _=>k b u q
 slot:=λb u q _ _ _=>⟨u.slots,k b u q⟩
 free:=λb u q n _=>by rw[aF (aa7 (aa_ (aas q) e))];exact n
 there:=λb u q _=>⟨u,k b u q⟩
 tups:=λb d q=>by rw[aF (aB q c)];exact q
 vM:=λb u d q=>by rw[aF (aB q c)];exact q
 wI:=λb f q=>⟨#[],by rw[aF (aB q c),q];simp⟩
def Un.write(c:Mut (H x))(he:e=x\/H e=some (.own x))(k:∀b u,b≠e->h.get? b=some u->h'.get? b=some u)(f:∃u,h'.get? e=some u):Un fs ex H (upd H x o) h h':=by
 have g:∀b,H b=none->b≠x:=λb n z=>by subst z;rw[n] at c;exact c
 have i:∀b,H b=none->b≠e:=λb n z=>by
  subst z;rcases he with r|r
  .exact g b n r
  .rw[n] at r;cases r
 have d:∀b u,H b=some u -> ¬Mut (some u)->b≠x:=λb u q nm z=>by subst z;rw[q] at c;exact nm c
 refine⟨λb u q n _ _=>k b u (i b n) q,λb u q n _ _=>⟨u.slots,k b u (i b n) q⟩,λb u q n _=>by rw[aF (g b n)];exact n,λb u q _=>?_,
  λb j q=>by rw[aF (d b _ q λz=>z)];exact q,λb u j q=>by rw[aF (d b _ q λz=>z)];exact q,λb l q=>⟨#[],by rw[aF (d b _ q λz=>z),q];simp⟩⟩
 by_cases a:b=e
 .subst a;exact f
 .exact⟨u,k b u a q⟩
end
def Xp(h:Heap)(H:Hp):List Addr:=(List.range h.objs.size).filter λa=>(H a).isSome
def G8(h:Heap)(H:Hp):Heap:=W.hideAll h (Xp h H)
def Rq(h:Heap)(H:Hp):(G8 h H).objs.size=h.objs.size:=W.hideAll_size _ _
def Wf{h:Heap}{H:Hp}{o:Obj}(e:h.get? b=some o)(n:H b=none):(G8 h H).get? b=some o:=
 W.hideAll_get _ e λa=>by have q:(H b).isSome=true:=(acJ.mp a).2;rw[n] at q;simp at q
theorem Zg{h:Heap}{H:Hp}{o:Obj}(e:(G8 h H).get? b=some o):h.get? b=some o/\H b=none:=by
 have a:h.get? b=some o:=W.of_hideAll (Xp h H) e;refine⟨a,?_⟩;cases q:H b with
 | none=>rfl
 | some x=>
   have c:b∈Xp h H:=acJ.mpr ⟨acS.mpr (aas a),by simp[q]⟩;have z:(G8 h H).get? b=none:=W.hideAll_none (Xp h H) c;rw[z] at e;cases e
def Z8(g h:Heap)(L:Addr):List (Addr×Obj):=(List.range h.objs.size).filterMap λa=>if a=L\/(g.get? a).isSome=true then none else (h.get? a).map λo=>(a,o)
def rest(g h:Heap)(L d:Addr):List (Addr×Obj):=(Z8 g h L).filter λp=>decide (p.1≠d)
structure Mod(K:zzy)(mg:zzv)(base:Heap):Prop where
 V7:K.In base
 glob:base.Ns mainGlobals mg
 blt:∃mb,base.Ns builtinsNs mb /\ ∀x:Str,x ≠ "__name__" -> mb x=bootBuiltins x
 nolimit:base.NoLimit
structure Cx where
 prog:Program
 w:World
 K:zzy
 mg:Str->Option Value
 base:Heap
 A:Around
 N:List Str
 s₀:Shared
 H₀:Hp
 env:Env
 outer:List Env
 stack:List Env
 ex:List Addr
 fn:Str->Bool
 calm:Bool
 pn:List (Addr×Obj)
 xe:Value->Shared->Prop
def frs(l:List Env):List Addr:=l.filterMap (·.frame)
abbrev Cx.fs(X:Cx):List Addr:=frs X.outer
def Vis(a:Scope)(x:Str):Prop:=a.names.lookup x=some .local\/a.names.lookup x=some .cell\/a.names.lookup x=some .free
def Loc(a:Scope)(x:Str):Prop:=a.names.lookup x=some .local\/a.names.lookup x=some .cell
def Look(env:Env)(h:Heap)(m:zzv)(x:Str)(u:Value):Prop:=(env.kindOf x=some .local/\m x=some u)\/((env.kindOf x=some .cell\/env.kindOf x=some .free) /\ ∃c,env.cells.lookup x=some c/\h.IsCell c (some u))
structure Cx.Ok(X:Cx):Prop where
 mod:Mod X.K X.mg X.base
 kind:X.env.scope.kind=.function
 glob:X.env.globals=mainGlobals
 blt:X.env.builtins=builtinsNs
 above:X.s₀.heap.objs.size<=X.env.locals
 inj:∀x y c,X.env.cells.lookup x=some c->X.env.cells.lookup y=some c->x=y
 has:∀x,(X.env.kindOf x=some .cell\/X.env.kindOf x=some .free) -> ∃c,X.env.cells.lookup x=some c
 cab:∀x c,X.fn x=true->X.env.cells.lookup x=some c->X.s₀.heap.objs.size<=c
 hd:X.calm=true->X.A.handled=none
 frames:X.A.frames=some X.stack
 stk:X.stack=X.outer\/(X.stack=X.env::X.outer/\X.env.frame=some X.env.locals)
 exf:∀b∈X.ex,b≠X.env.locals /\ ∀x c,X.env.cells.lookup x=some c->c≠b
 bs:∀b o,X.base.get? b=some o->X.s₀.heap.get? b=some o/\X.H₀ b=none
 Mz:X.base.objs.size<=X.s₀.heap.objs.size
 GJ:∀b o,X.base.get? b=some o->b∉X.ex
 JK:∀b∈X.ex,b∉X.fs
 qe:X.s₀.heap.FunFrames X.base X.outer
 SM:∀b∈X.fs,X.H₀ b=none
structure Inv(X:Cx)(pins:zzw)(σ:List (Option V))(H:Hp)(s:Shared):Prop where
 ok:X.Ok
 os:s.os=X.s₀.os
 bare:AllBare s.gens
 base:Un X.fs X.ex X.H₀ H X.s₀.heap s.heap
 loc:∃m,s.heap.Ns X.env.locals m /\ ∀(i:Nat)(x:Str)(v:V),X.N[i]?=some x->σ[i]?=some (some v)->Vis X.env.scope x -> ∃u,RelV v u/\Look X.env s.heap m x u
 cell:∀x c,X.env.cells.lookup x=some c -> ∃v,s.heap.IsCell c v
 free:H X.env.locals=none
 jr:∀x c,X.env.cells.lookup x=some c->H c=none
 pin:∀p∈X.pn++pins,s.heap.get? p.1=some p.2/\H p.1=none/\p.1≠X.env.locals/\p.1∉X.fs /\ ∀v,p.2.data ≠ .cell v
 hok:tG X.prog X.w H s.heap
 len:σ.length=X.N.length
section
variable{X:Cx}{σ:List (Option V)}{H H':Hp}
def Cx.Ok.ai0(ok:X.Ok){o:Obj}(e:X.base.get? b=some o):b∉X.fs:=λa=>by have:=(ok.qe.mem a).1;rw[e] at this;cases this
theorem Inv.bs(I:Inv X pins σ H s):∀b o,X.base.get? b=some o->s.heap.get? b=some o/\H b=none:=λb o e=>
 ⟨I.base.keep b o (I.ok.bs b o e).1 (I.ok.bs b o e).2 (I.ok.ai0 e) (I.ok.GJ b o e),I.base.free b o (I.ok.bs b o e).1 (I.ok.bs b o e).2 (I.ok.GJ b o e)⟩
def Inv.bk(I:Inv X pins σ H s):∀b o,X.base.get? b=some o->s.heap.get? b=some o:=λb o e=>(I.bs b o e).1
theorem Inv.mod(I:Inv X pins σ H s):Mod X.K X.mg X.base:=I.ok.mod
def Inv.oO(I:Inv X pins σ H s):X.K.In s.heap:=I.ok.mod.V7.keeps I.bk
def Inv.fr(I:Inv X pins σ H s):∃m,Fr X.base X.env.locals s.heap m:=
 let ⟨m,a,_⟩:=I.loc
 ⟨m,a,I.bk,adl I.ok.Mz I.ok.above⟩
theorem Inv.lt(I:Inv X pins σ H s):X.env.locals<s.heap.objs.size:=let ⟨_,a,_⟩:=I.loc;a.lt
def Inv.sz(I:Inv X pins σ H s):X.s₀.heap.objs.size<=s.heap.objs.size:=adl I.ok.above (adn I.lt)
def Inv.aiZ(I:Inv X pins σ H s)(h:s.heap.objs.size<=a):a∉X.fs:=λc=>by obtain⟨_,o,b,_⟩:=I.ok.qe.mem c;exact adt (aa_ (aas b) (adl I.sz h)) (adk _)
def Inv.cne(I:Inv X pins σ H s):∀x c,X.env.cells.lookup x=some c->c≠X.env.locals:=λx c e z=>by obtain⟨v,o,d,f⟩:=I.cell x c e;obtain⟨m,⟨g,h,i,a,b,_⟩,_⟩:=I.loc;rw[z,a] at d;cases d;rw[b] at f;cases f
theorem Inv.qe(I:Inv X pins σ H s):s.heap.FunFrames X.base X.outer:=by
 have all:∀(l:List Env),(∀b∈frs l,b∈X.fs)->X.s₀.heap.FunFrames X.base l->s.heap.FunFrames X.base l:=by
  intro l
  induction l with
  | nil=>intro _ _;trivial
  | cons env r g=>
    intro f k;obtain⟨m,⟨L,o,a,j,i,n⟩,h⟩:=k;have d:L∈X.fs:=f L (by unfold frs;rw[List.filterMap_cons,a];exact List.mem_cons_self);obtain⟨p,e⟩:=I.base.slot L o i (I.ok.SM L d) d λz=>I.ok.JK L z d;exact⟨m,⟨L,_,a,j,e,n⟩,g (λb c=>f b (by unfold frs;rw[List.filterMap_cons,a];exact abz _ c)) h⟩
 exact all X.outer (λ_ c=>c) I.ok.qe
theorem Inv.stack(I:Inv X pins σ H s):s.heap.FunFrames X.base X.stack:=by
 rcases I.ok.stk with e|⟨e,b⟩
 .rw[e];exact I.qe
 .rw[e]
  obtain⟨m,a,_⟩:=I.loc;refine .cons (by rw[I.ok.kind];decide) b a ?_ I.qe;exact Heap.get?_none_of_le (adl I.ok.Mz I.ok.above)
def Inv.Aa(I:Inv X pins σ H s):∀b∈frs X.stack,b∈X.env.locals::X.fs:=λb a=>by
 rcases I.ok.stk with e|⟨e,c⟩
 .rw[e] at a;exact abz _ a
 .rw[e] at a
  unfold frs at a;rw[List.filterMap_cons,c] at a;exact a
def Inv.FN(I:Inv X pins σ H s):∀b∈frs X.stack,H b=none:=λb a=>by
 rcases List.mem_cons.mp (I.Aa b a) with e|a
 .rw[e];exact I.free
 .obtain⟨_,o,c,_⟩:=I.ok.qe.mem a
  exact I.base.free b o c (I.ok.SM b a) λz=>I.ok.JK b z a
theorem Inv.step{g':Array GenState}{d':Drawn}(I:Inv X pins σ H s)(g:∀b∈ch,(b∈X.ex\/X.s₀.heap.objs.size<=b)/\b≠X.env.locals/\(∀x c,X.env.cells.lookup x=some c->c≠b) /\ ∀p∈X.pn++pins,p.1≠b)(keep:∀b o,b≠X.env.locals->b∉X.fs->b∉ch->s.heap.get? b=some o->H b=none->h'.get? b=some o)(slot:∀b o,b≠X.env.locals->b∈X.fs->b∉ch->s.heap.get? b=some o->H b=none -> ∃sl,h'.get? b=some {o with slots:=sl})(free:∀b o,b∉ch->s.heap.get? b=some o->H b=none->H' b=none)(there:∀b o,b∉ch->s.heap.get? b=some o -> ∃o',h'.get? b=some o')(tups:∀b xs,H b=some (.tup xs)->H' b=some (.tup xs))(vM:∀b o u,H b=some (.JG o u)->H' b=some (.JG o u))(wI:∀b ps,H b=some (.tbl ps) -> ∃more,H' b=some (.tbl (ps++more)))(ns:∀m,s.heap.Ns X.env.locals m->h'.Ns X.env.locals m)(C:tG X.prog X.w H' h')(N:AllBare g'):
 Inv X pins σ H' {s with heap:=h',gens:=g',drawn:=d',toks:=t'}:=by
 have y:∀b o,X.s₀.heap.get? b=some o->b≠X.env.locals:=λb o e=>aa7 (aa_ (aas e) I.ok.above)
 have h:∀b o,X.s₀.heap.get? b=some o->b∉X.ex->b∉ch:=λb o e a t=>by
  rcases(g b t).1 with z|z
  .exact a z
  .exact adt (aa_ (aas e) z) (adk _)
 have cellK:∀x c,X.env.cells.lookup x=some c -> ∀v,s.heap.IsCell c v->h'.IsCell c v:=λx c e v ⟨o,w,D⟩=>by
  have f:c∉ch:=λz=>(g c z).2.2.1 x c e rfl
  by_cases G:c∈X.fs
  .obtain⟨sl,q⟩:=slot c o (I.cne x c e) G f w (I.jr x c e)
   exact⟨_,q,D⟩
  .exact⟨o,keep c o (I.cne x c e) G f w (I.jr x c e),D⟩
 refine⟨I.ok,I.os,N,⟨λb o e n t a=>?_,λb o e n t a=>?_,λb o e n a=>?_,λb o e a=>?_,λb xs e=>tups b xs (I.base.tups b xs e),λb o xs e=>vM b o xs (I.base.vM b o xs e),λb ps e=>?_⟩,?_,λx c e=>?_,?_,λx c e=>?_,λp F=>?_,C,I.len⟩
 .exact keep b o (y b o e) t (h b o e a) (I.base.keep b o e n t a) (I.base.free b o e n a)
 .obtain⟨sl,j⟩:=I.base.slot b o e n t a
  obtain⟨B,A⟩:=slot b _ (y b o e) t (h b o e a) j (I.base.free b o e n a);exact⟨B,A⟩
 .obtain⟨o',j⟩:=I.base.there b o e a
  exact free b o' (h b o e a) j (I.base.free b o e n a)
 .obtain⟨o',j⟩:=I.base.there b o e a
  exact there b o' (h b o e a) j
 .obtain⟨K,j⟩:=I.base.wI b ps e
  obtain⟨J,A⟩:=wI b _ j;exact⟨K++J,by rw[A,Array.append_assoc]⟩
 .obtain⟨m,L,M⟩:=I.loc
  refine⟨m,ns m L,λi x v j A O=>?_⟩;obtain⟨u,r,l⟩:=M i x v j A O;refine⟨u,r,?_⟩;rcases l with l|⟨k,c,e,z⟩
  .exact .inl l
  .exact .inr ⟨k,c,e,cellK x c e _ z⟩
 .obtain⟨v,z⟩:=I.cell x c e
  exact⟨v,cellK x c e v z⟩
 .obtain⟨m,⟨o,_,_,w,_⟩,_⟩:=I.loc
  exact free _ o (λz=>(g _ z).2.1 rfl) w I.free
 .obtain⟨v,o,w,D⟩:=I.cell x c e
  exact free c o (λz=>(g c z).2.2.1 x c e rfl) w (I.jr x c e)
 .obtain⟨e,n,ne,E,d⟩:=I.pin p F
  have f:p.1∉ch:=λz=>(g p.1 z).2.2.2 p F rfl;exact⟨keep p.1 p.2 ne E f e n,free p.1 p.2 f e n,ne,E,d⟩
def Inv.un(I:Inv X pins σ H s)(u:Un X.fs [] H H' s.heap h')(c:tG X.prog X.w H' h'):Inv X pins σ H' {s with heap:=h',toks:=t'}:=by
 obtain⟨m,⟨o,t,v,h,r⟩,_⟩:=id I.loc;obtain⟨l,k⟩:=u.any h I.free MZ
 exact I.step (g':=s.gens) (d':=s.drawn) (ch:=[]) (λ_ z=>nomatch z) (λb o _ d _ e n=>u.keep b o e n d MZ) (λb o _ d _ e n=>u.slot b o e n d MZ) (λb o _ e n=>u.free b o e n MZ) (λb o _ e=>u.there b o e MZ) u.tups u.vM u.wI (λq j=>by obtain⟨p,f,g,a,i⟩:=j;rw[h] at a;cases a;exact⟨_,f,g,k,i⟩) c I.bare
def Inv.call{g':Array GenState}{d':Drawn}(I:Inv X pins σ H s)(u:Un (frs X.stack) ch H H' s.heap h')(g:tG X.prog X.w H' h')(t:AllBare g')(f:∀b∈ch,(b∈X.ex\/X.s₀.heap.objs.size<=b)/\b≠X.env.locals/\(∀x c,X.env.cells.lookup x=some c->c≠b) /\ ∀p∈X.pn++pins,p.1≠b):
 Inv X pins σ H' {s with heap:=h',gens:=g',drawn:=d',toks:=t'}:=by
 obtain⟨m,⟨o,B,C,k,r⟩,_⟩:=id I.loc;obtain⟨w,h⟩:=u.any k I.free λz=>(f _ z).2.1 rfl
 exact I.step (ch:=ch) f (λb o h v a e n=>u.keep b o e n (λz=>(List.mem_cons.mp (I.Aa b z)).elim h v) a) (λb o _ _ a e n=>u.any e n a) (λb o a e n=>u.free b o e n a) (λb o a e=>u.there b o e a) u.tups u.vM u.wI (λA q=>by obtain⟨y,i,j,d,l⟩:=q;rw[k] at d;cases d;exact⟨_,i,j,h,l⟩) g t
def Inv.turned(I:Inv X pins σ H s)(k:∀b o,b≠it->s.heap.get? b=some o->h'.get? b=some o)(h:H it=none)(f:it≠X.env.locals)(w:it∈X.ex\/X.s₀.heap.objs.size<=it)(t:∀x c,X.env.cells.lookup x=some c->c≠it)(l:∀p∈X.pn++pins,p.1≠it):Inv X pins σ H {s with heap:=h',toks:=t'}:=by
 have d:∀b u,H b=some u->b≠it:=λb u e z=>by rw[z,h] at e;cases e
 refine I.step (g':=s.gens) (d':=s.drawn) (ch:=[it]) (λb j=>?_) (λb o _ _ a e _=>k b o (λz=>a (by simp[z])) e) (λb o _ _ a e _=>⟨o.slots,k b o (λz=>a (by simp[z])) e⟩) (λ_ _ _ _ n=>n)
  (λb o a e=>⟨o,k b o (λz=>a (by simp[z])) e⟩) (λ_ _ e=>e) (λ_ _ _ e=>e) (λb B e=>⟨#[],by rw[e];simp⟩) (λm i=>?_) (λb u e=>?_) I.bare
 .have e:b=it:=by simpa using j
  subst e;exact⟨w,f,t,l⟩
 .obtain⟨o,y,A,g,r⟩:=i
  exact⟨o,y,A,k _ o (Ne.symm f) g,r⟩
 .refine(I.hok b u e).stay (λc v a q=>k c v ?_ q) (λ_ q=>q) λ_ _ q=>q
  rcases a with z|z
  .rw[z];exact d b u e
  .exact d c _ z
def Inv.tok(I:Inv X pins σ H s)(t:Nat):Inv X pins σ H {s with toks:=t}:=I.un (h':=s.heap) (t':=t) Un.refl I.hok
theorem Inv.kept{t':Nat}(I:Inv X pins σ H s)(k:∀b u,s.heap.get? b=some u->h'.get? b=some u):Inv X pins σ H {s with heap:=h',toks:=t'}:=I.un (Un.kept k) (I.hok.kept k)
theorem Inv.laid{a:Addr}{o:HO}{t':Nat}(I:Inv X pins σ H s)(k:∀b u,s.heap.get? b=some u->h'.get? b=some u)(c:s.heap.objs.size<=a)(new:dU X.prog X.w (upd H a o) h' a o):
 Inv X pins σ (upd H a o) {s with heap:=h',toks:=t'}:=I.un (Un.laid k c (I.hok.fresh c)) (I.hok.laid k c new)
theorem Inv.write{x e:Addr}{o:HO}{t':Nat}(I:Inv X pins σ H s)(c:Mut (H x))(he:e=x\/H e=some (.own x))(k:∀b u,b≠e->s.heap.get? b=some u->h'.get? b=some u)(a:∃u,h'.get? e=some u)(new:dU X.prog X.w (upd H x o) h' x o):Inv X pins σ (upd H x o) {s with heap:=h',toks:=t'}:=I.un (Un.write c he k a) (I.hok.write c he k a new)
def Inv.Oq(I:Inv X pins σ H s)(h:∀p∈pY,s.heap.get? p.1=some p.2/\H p.1=none/\p.1≠X.env.locals/\p.1∉X.fs /\ ∀v,p.2.data ≠ .cell v):Inv X pY σ H s:=⟨I.ok,I.os,I.bare,I.base,I.loc,I.cell,I.free,I.jr,λp a=>(abA.mp a).elim (λz=>I.pin p (List.mem_append_left _ z)) (h p),I.hok,I.len⟩
def Bu(c:N.Nodup)(a:N[i]?=some x)(b:N[j]?=some x):i=j:=by obtain⟨g,e⟩:=aam.mp a;obtain⟨f,d⟩:=aam.mp b;exact(List.getElem_inj c).mp (e.trans d.symm)
theorem D_{M:Model}{v:V}{Q:zzu}(I:Inv X pins σ H s)(hN:X.N.Nodup)(hi:X.N[i]?=some x)(t:Loc X.env.scope x)(r:RelV v u)(h:∀s',Inv X pins (σ.set i (some v)) H s'->(∃a,Heap.SameBut a s.heap s'.heap/\(a=X.env.locals\/X.env.cells.lookup x=some a))->Q () s')(hf:X.fn x=true\/X.env.scope.names.lookup x=some .local:=by first |exact .inl rfl|exact .inr rfl|assumption):wpAny M A (storeName X.env x u) Q E s:=by
 obtain⟨m,hn,hl⟩:=id I.loc;have N:(X.env.scope.kind == .class||(X.env.scope.kind == .module&&X.env.locals != X.env.globals))=false:=by rw[I.ok.kind];rfl
 have R:i<σ.length:=by rw[I.len];exact(aam.mp hi).1
 have J:=I.cne
 have tracked:∀{a:Addr}{K:Heap},(∃o,s.heap.get? a=some o/\H a=none)->Heap.SameBut a s.heap K->tG X.prog X.w H K:=fun {a K} ha f b ob e=>by
  obtain⟨_,_,w⟩:=ha;refine(I.hok b ob e).stay (λc S l q=>(f.2 c ?_).trans q) (λ_ q=>q) λ_ _ q=>q;rintro rfl;rcases l with rfl|l
  .rw[w] at e;cases e
  .rw[w] at l;cases l
 rcases t with C|C
 .refine wpAny_storeName_local C hn (λK a1 f=>?_) N
  obtain⟨oL,_,_,a0,_⟩:=id hn;refine h _ ⟨I.ok,I.os,I.bare,⟨λb o e n G t=>?_,λb o e n G t=>?_,I.base.free,λb o e t=>?_,I.base.tups,I.base.vM,I.base.wI⟩,⟨_,a1,λj y U g B e3=>?_⟩,λy c e=>?_,I.free,I.jr,λp hp=>?_,tracked ⟨oL,a0,I.free⟩ f,by simpa using I.len⟩ ⟨_,f,.inl rfl⟩
  .exact(f.2 b (aa7 (aa_ (aas e) I.ok.above))).trans (I.base.keep b o e n G t)
  .obtain⟨Y,g⟩:=I.base.slot b o e n G t
   exact⟨Y,(f.2 b (aa7 (aa_ (aas e) I.ok.above))).trans g⟩
  .obtain⟨o',g⟩:=I.base.there b o e t
   exact⟨o',(f.2 b (aa7 (aa_ (aas e) I.ok.above))).trans g⟩
  .by_cases D:j=i
   .subst D
    rw[hi] at g;cases g;rw[List.getElem?_set_self R] at B;cases B;exact⟨u,r,.inl ⟨C,MZ⟩⟩
   .rw[List.getElem?_set_ne (Ne.symm D)] at B
    obtain⟨W,r',q⟩:=hl j y U g B e3;refine⟨W,r',?_⟩;rcases q with ⟨k,e⟩|⟨k,c,e,z⟩
    .refine .inl ⟨k,?_⟩
     have:y≠x:=λe=>D (Bu hN g (e▸hi));simp[this,e]
    .exact .inr ⟨k,c,e,z.sameBut f (J y c e)⟩
  .obtain⟨S,z⟩:=I.cell y c e
   exact⟨S,z.sameBut f (J y c e)⟩
  .obtain⟨e,n,ne,nf,d⟩:=I.pin p hp
   exact⟨(f.2 p.1 ne).trans e,n,ne,nf,d⟩
 .have F:X.fn x=true:=by
   rcases hf with z|z
   .exact z
   .rw[z] at C;cases C
  obtain⟨c,l⟩:=I.ok.has x (.inl C);obtain⟨S,z⟩:=I.cell x c l;refine wpAny_storeName_cell I.ok.kind C l z (λK P f=>?_);obtain⟨oc,L,a2⟩:=id z;refine h {s with heap:=K} ⟨I.ok,I.os,I.bare,⟨λb o e n G t=>?_,λb o e n G t=>?_,I.base.free,λb o e t=>?_,I.base.tups,I.base.vM,I.base.wI⟩,⟨m,hn.sameBut f (Ne.symm (J x c l)),λj y U g B e3=>?_⟩,λy T e=>?_,I.free,I.jr,λp hp=>?_,tracked ⟨oc,L,I.jr x c l⟩ f,by simpa using I.len⟩ ⟨c,f,.inr l⟩
  .exact(f.2 b (aa7 (aa_ (aas e) (I.ok.cab x c F l)))).trans (I.base.keep b o e n G t)
  .obtain⟨Y,g⟩:=I.base.slot b o e n G t
   exact⟨Y,(f.2 b (aa7 (aa_ (aas e) (I.ok.cab x c F l)))).trans g⟩
  .obtain⟨o',g⟩:=I.base.there b o e t
   exact⟨o',(f.2 b (aa7 (aa_ (aas e) (I.ok.cab x c F l)))).trans g⟩
  .by_cases D:j=i
   .subst D
    rw[hi] at g;cases g;rw[List.getElem?_set_self R] at B;cases B;exact⟨u,r,.inr ⟨.inl C,c,l,P⟩⟩
   .rw[List.getElem?_set_ne (Ne.symm D)] at B
    obtain⟨W,r',q⟩:=hl j y U g B e3;refine⟨W,r',?_⟩;rcases q with q|⟨k,T,e,z'⟩
    .exact .inl q
    .refine .inr ⟨k,T,e,z'.sameBut f ?_⟩
     rintro rfl;exact D (Bu hN g (I.ok.inj _ _ _ e l▸hi))
  .by_cases O:T=c
   .subst O;exact⟨_,P⟩
   .obtain⟨w2,z2⟩:=I.cell y T e
    exact⟨w2,z2.sameBut f O⟩
  .obtain⟨e,n,ne,nf,d⟩:=I.pin p hp
   refine⟨(f.2 p.1 ?_).trans e,n,ne,nf,d⟩;intro q;rw[q,L] at e;have q':oc=p.2:=aaY e;exact d S (by rw[←q'];exact a2)
theorem uQ{M:Model}{v:V}{Q:zzu}(I:Inv X pins σ H s)(c:X.N.Nodup)(hi:X.N[i]?=some x)(a:Loc X.env.scope x)(r:RelV v u)(h:∀s',Inv X pins (σ.set i (some v)) H s'->Q () s')(b:X.fn x=true\/X.env.scope.names.lookup x=some .local:=by first |exact .inl rfl|exact .inr rfl|assumption):wpAny M A (storeName X.env x u) Q E s:=D_ I c hi a r (λs' d _=>h s' d) b
theorem Inv.call'(I:Inv X pins σ H s)(g:s'.os=s.os)(u:Un (frs X.stack) ch H H' s.heap s'.heap)(a:tG X.prog X.w H' s'.heap)(h:AllBare s'.gens)(d:∀b∈ch,(b∈X.ex\/X.s₀.heap.objs.size<=b)/\b≠X.env.locals/\(∀x c,X.env.cells.lookup x=some c->c≠b) /\ ∀p∈X.pn++pins,p.1≠b):Inv X pins σ H' s':=by obtain⟨i,g',d',t',f⟩:=s';have e:f=s.os:=g;subst e;exact I.call (g':=g') (t':=t') (d':=d') u a h d
end
abbrev XK:=Value->Option Addr->Hp->Prop
abbrev St:=List (Option V)
abbrev VK:=V->Hp->Prop
abbrev TE:=St->Hp->VK->Prop
abbrev TT:=St->Hp->(Bool->Hp->Prop)->Prop
abbrev TA:=St->Hp->(List V->Hp->Prop)->Prop
structure Ends where
 nx:St->Hp->Prop
 rt:VK
 bk:St->Hp->Prop:=λ_ _=>False
 ct:St->Hp->Prop:=λ_ _=>False
abbrev TS:=Ends->St->Hp->Prop
end L2
variable{rm vs xs ys:List L2.V}{H H':L2.Hp}{X:L2.Cx}{σ σ0:L2.St}{cv v y:L2.V}{ta te tk to tv:L2.TE}{tb th:L2.TS}{tc:L2.TT}{X_ rd:L2.V->L2.V->L2.Hp->L2.VK->Prop}{ks:List L2.Key}{gV:List L2.V->List L2.V->List L2.V}{kvs:List (List L2.Key×L2.V)}{G:PySem.Addr->L2.Hp->Prop}{x5:Option L2.V}
namespace L2
open PySem PySem.Spec PyProof.Rows
def EP(X:Cx)(a:zzw)(b:St)(Q:VK)(u:Value)(s':Shared):Prop:=∃v H',Inv X a b H' s'/\RelV v u/\Q v H'
def TP(X:Cx)(a:zzw)(c:St)(Q:Bool->Hp->Prop)(b:Bool)(s':Shared):Prop:=∃H',Inv X a c H' s'/\Q b H'
def AP(X:Cx)(a:zzw)(b:St)(Q:List V->Hp->Prop)(us:zzt)(s':Shared):Prop:=∃vs H',Inv X a b H' s'/\Vals vs us/\Q vs H'
def SP(X:Cx)(b:zzw)(D:Ends)(f:Flow)(s':Shared):Prop:=
 match f with
 | .next=>∃a H',Inv X b a H' s'/\D.nx a H'
 | .brk=>∃a H',Inv X b a H' s'/\D.bk a H'
 | .cont=>∃a H',Inv X b a H' s'/\D.ct a H'
 | .ret u=>∃v a H',Inv X b a H' s'/\RelV v u/\D.rt v H'
def PE(X:Cx)(e:Expr)(t:TE):Prop:=∀(pins:zzw)(s:Shared)(σ:St)(H:Hp)(Q:VK),Inv X pins σ H s->t σ H Q->wpAny (model X.prog X.w) X.A (eval e X.env) (EP X pins σ Q) X.xe s
def PT(X:Cx)(e:Expr)(t:TT):Prop:=∀(pins:zzw)(s:Shared)(σ:St)(H:Hp)(Q:Bool->Hp->Prop),Inv X pins σ H s->t σ H Q->wpAny (model X.prog X.w) X.A (isTrue e X.env (eval e X.env)) (TP X pins σ Q) X.xe s
def PW(X:Cx)(e:Expr)(t:TT):Prop:=∀(whole:Sem Value)(pins:zzw)(s:Shared)(σ:St)(H:Hp)(Q:Bool->Hp->Prop),Inv X pins σ H s->t σ H Q->wpAny (model X.prog X.w) X.A (isTrue e X.env whole) (TP X pins σ Q) X.xe s
def PW.pt{t:TT}(h:PW X e t):PT X e t:=h _
def PA(X:Cx)(a:List Expr)(t:TA):Prop:=∀(pos:Pos)(pins:zzw)(s:Shared)(σ:St)(H:Hp)(Q:List V->Hp->Prop),Inv X pins σ H s->t σ H Q->wpAny (model X.prog X.w) X.A (spliced (backTo pos (starEach a X.env))) (AP X pins σ Q) X.xe s
def PS(X:Cx)(st:Stmt)(t:TS):Prop:=∀(pins:zzw)(s:Shared)(σ:St)(H:Hp)(D:Ends),Inv X pins σ H s->t D σ H->wpAny (model X.prog X.w) X.A (exec st X.env) (SP X pins D) X.xe s
def Ko(X:Cx)(st:List Stmt)(t:TS):Prop:=∀(pins:zzw)(s:Shared)(σ:St)(H:Hp)(D:Ends),Inv X pins σ H s->t D σ H->wpAny (model X.prog X.w) X.A (execs st X.env) (SP X pins D) X.xe s
def dM{α:Type}{t:Sem α}{Q b:α->Shared->Prop}{M:Model}(h:wpAny M A t Q E s)(c:∀a s,Q a s->b a s):wpAny M A t b E s:=wpAny_mono h c λ_ _ x=>x
section
inductive d_(i:Nat)(σ:St)(H:Hp)(Q:VK):Prop|m:∀v,σ[i]?=some (some v)->Q v H->d_ i σ H Q
def tC(v:V):TE:=λ_ H Q=>Q v H
def abN(w:X.N[i]?=some x)(o:Vis X.env.scope x)(g:(x==("__debug__" :Str))=false:=by decide)(j:(x==("__classdict__" :Str))=false:=by decide):PE X (.Name x pos) (d_ i):=by
 intro f s n H Q I h;obtain⟨v,e,h⟩:=h;obtain⟨m,p,t⟩:=I.loc;obtain⟨u,r,l⟩:=t i x v w e o;have d:EP X f n Q u s:=⟨v,H,I,r,h⟩;rcases l with ⟨b,q⟩|⟨b,c,k,a⟩
 .exact wpAny_Name (wpAny_loadName_local I.ok.kind b p q d) g
 .rcases b with b|b
  .exact wpAny_Name (wpAny_loadName_cell I.ok.kind b k a d) g
  .exact wpAny_Name (wpAny_loadName_free I.ok.kind b k a d j) g
def aG{i j pos}:PE X (.Constant (.int i) j pos) (tC (.int i)):=λ_ _ _ H _ I h=>wpAny_Constant_int ⟨.int i,H,I.tok _,⟨_,Z⟩,h⟩
def j_{b j pos}:PE X (.Constant (.bool b) j pos) (tC (.bl b)):=λ_ _ _ H _ I h=>Constant_bool ⟨.bl b,H,I,Z,h⟩
def j7{j pos}:PE X (.Constant .none j pos) (tC .non):=λ_ _ _ H _ I h=>Constant_none ⟨.non,H,I,Z,h⟩
def bO{x j pos}:PE X (.Constant (.str x) j pos) (tC (.str x)):=λ_ _ _ H _ I h=>Calls.Constant_str ⟨.str x,H,I.tok _,⟨_,Z⟩,h⟩
def Gl(X:Cx)(x:Str):Prop:=X.env.kindOf x=some .globalImplicit
def pN(I:Inv X pins σ H s)(b:Gl X x)(a:X.mg x=some u)(h:Q u s)(c:(x==("__debug__" :Str))=false:=by decide):wpAny (model X.prog X.w) X.A (eval (.Name x pos) X.env) Q E s:=Calls.Name_function_global I.ok.kind b (Calls.loadGlobal_global (by rw[I.ok.glob];exact I.mod.glob.keeps I.bk) a h) c
def pO(I:Inv X pins σ H s)(d:Gl X x)(c:X.mg x=none)(a:bootBuiltins x=some u)(h:Q u s)(b:x ≠ "__name__" :=by decide)(e:(x==("__debug__" :Str))=false:=by decide):wpAny (model X.prog X.w) X.A (eval (.Name x pos) X.env) Q E s:=by obtain⟨i,g,f⟩:=I.mod.blt;exact Calls.Name_function_global I.ok.kind d (Calls.loadGlobal_builtin (by rw[I.ok.glob];exact I.mod.glob.keeps I.bk) c (by rw[I.ok.blt];exact g.keeps I.bk) ((f x b).trans a) h) e
def jH(b:Gl X x)(a:X.mg x=some u)(r:RelV v u)(c:(x==("__debug__" :Str))=false:=by decide):PE X (.Name x pos) (tC v):=
 λ_ _ _ H _ I h=>pN I b a ⟨v,H,I,r,h⟩ c
def fO(d:Gl X x)(c:X.mg x=none)(a:bootBuiltins x=some u)(r:RelV v u)(b:x ≠ "__name__" :=by decide)(e:(x==("__debug__" :Str))=false:=by decide):PE X (.Name x pos) (tC v):=
 λ_ _ _ H _ I h=>pO I d c a ⟨v,H,I,r,h⟩ b e
variable{a b:Expr}{tb:TE}
inductive aea(Q:Bool->Hp->Prop)(x:V)(H1:Hp):Prop|m:∀c,x=.bl c->Q c H1->aea Q x H1
def tB(t:TE):TT:=λσ H Q=>t σ H λx H1=>aea Q x H1
def cX{t:TE}(h:PE X e t)(he:∀whole,isTrue e X.env whole=(do let v ←whole;standAt e.pos;holding [v] (truthy v)):=by intro _;rfl):PT X e (tB t):=by intro a s b H Q I hw;refine isTrue_plain (dM (h a s b H _ I hw) λv g ⟨x,H1,f,c,q1⟩=>?_) (he _);obtain⟨d,rfl,q⟩:=q1;cases c;exact wpAny_truthy_bool ⟨H1,f,q⟩
variable{tA tB':TT}{rest:List Expr}
def abu(t u:TT):TT:=λσ H Q=>t σ H λc H1=>if c=true then u σ H1 Q else Q false H1
def tOr(t u:TT):TT:=λσ H Q=>t σ H λc H1=>if c=true then Q true H1 else u σ H1 Q
def ad9(t:TT):TT:=λσ H Q=>t σ H λc H1=>Q (!c) H1
def vp(f:PT X a tA):PW X (.BoolOp .And [a] pos) tA:=by
 intro g b s d H Q I h;refine isTrue_and (dM (f b s d H Q I h) λc i e=>?_);cases c with
 | true=>exact isTrue_and_nil e
 | false=>exact e
def lJ(f:PT X a tA):PW X (.BoolOp .Or [a] pos) tA:=by
 intro g b s d H Q I h;refine isTrue_or (dM (f b s d H Q I h) λc i e=>?_);cases c with
 | false=>exact isTrue_or_nil e
 | true=>exact e
def xu(k:PT X a tA)(j:PW X (.BoolOp .And (b::rest) pos) tB'):PW X (.BoolOp .And (a::b::rest) pos) (abu tA tB'):=by
 intro g d s e H Q I h;refine isTrue_and (dM (k d s e H _ I h) λc i ⟨H1,f,q1⟩=>?_);cases c with
 | true=>exact j g d i e H1 Q f q1
 | false=>exact⟨H1,f,q1⟩
def mK(k:PT X a tA)(j:PW X (.BoolOp .Or (b::rest) pos) tB'):PW X (.BoolOp .Or (a::b::rest) pos) (tOr tA tB'):=by
 intro g d s e H Q I h;refine isTrue_or (dM (k d s e H _ I h) λc i ⟨H1,f,q1⟩=>?_);cases c with
 | true=>exact⟨H1,f,q1⟩
 | false=>exact j g d i e H1 Q f q1
def fH(e:PT X a tA):PT X (.UnaryOp .Not a pos) (ad9 tA):=by intro b s d H Q I h;exact isTrue_not (e b s d H (λc H1=>Q (!c) H1) I h)
inductive N6(tb:TE)(σ:St)(Q:VK)(x:V)(H1:Hp):Prop|m:∀c,x=.bl c->(if c=true then tb σ H1 Q else Q (.bl false) H1)->N6 tb σ Q x H1
def aed(b a:TE):TE:=λσ H Q=>b σ H λx H1=>N6 a σ Q x H1
inductive Ua(tb:TE)(σ:St)(Q:VK)(x:V)(H1:Hp):Prop|m:∀c,x=.bl c->(if c=true then Q (.bl true) H1 else tb σ H1 Q)->Ua tb σ Q x H1
def ad7(b a:TE):TE:=λσ H Q=>b σ H λx H1=>Ua a σ Q x H1
inductive NT(Q:VK)(x:V)(H1:Hp):Prop|m:∀c,x=.bl c->Q (.bl (!c)) H1->NT Q x H1
def ad8(a:TE):TE:=λσ H Q=>a σ H λx H1=>NT Q x H1
def iZ{op}{t:TE}(h:PE X a t):PE X (.BoolOp op [a] pos) t:=λb s c H Q I hw=>BoolOp_one (h b s c H Q I hw)
def jA(l:PE X a ta)(k:PE X (.BoolOp .And (b::rest) pos) tb):PE X (.BoolOp .And (a::b::rest) pos) (aed ta tb):=by
 intro d s e H Q I h;refine BoolOp_and (dM (l d s e H _ I h) λv g j=>?_);obtain⟨x,H1,f,i,q1⟩:=j;obtain⟨c,rfl,q1⟩:=q1;cases i;refine wpAny_truthy_bool ?_;cases c with
 | true=>exact k d g e H1 Q f q1
 | false=>exact⟨.bl false,H1,f,Z,q1⟩
def Vc(l:PE X a ta)(k:PE X (.BoolOp .Or (b::rest) pos) tb):PE X (.BoolOp .Or (a::b::rest) pos) (ad7 ta tb):=by
 intro d s e H Q I h;refine BoolOp_or (dM (l d s e H _ I h) λv g j=>?_);obtain⟨x,H1,f,i,q1⟩:=j;obtain⟨c,rfl,q1⟩:=q1;cases i;refine wpAny_truthy_bool ?_;cases c with
 | false=>exact k d g e H1 Q f q1
 | true=>exact⟨.bl true,H1,f,Z,q1⟩
def Vd(g:PE X a ta):PE X (.UnaryOp .Not a pos) (ad8 ta):=by intro b s d H Q I h;refine UnaryOp_ (dM (g b s d H _ I h) λv j f=>?_);obtain⟨x,H1,i,e,q1⟩:=f;obtain⟨c,rfl,q1⟩:=q1;cases e;exact not_of (wpAny_truthy_bool ⟨.bl (!c),H1,i,Z,q1⟩)
def tIf(t:TT)(b a:TE):TE:=λσ H Q=>t σ H λc H1=>if c=true then b σ H1 Q else a σ H1 Q
def lM(j:PT X c tA)(l:PE X a ta)(k:PE X b tb):PE X (.IfExp c a b pos) (tIf tA ta tb):=by
 intro e s f H Q I h;refine wpAny_IfExp (dM (j e s f H _ I h) λd g ⟨H1,i,q1⟩=>?_);cases d with
 | true=>exact l e g f H1 Q i q1
 | false=>exact k e g f H1 Q i q1
end
def bF(K:zzy)(H:Hp)(a:Addr)(xs:List V):Prop:=
 Rd H a (.lst xs) \/
  ∃(o:Obj) (its:Array Value) (n:Nat),K.lookup a=some o/\o.cls=.type "list" /\ o.dict=none/\o.data=.seq its n/\its.size<=sizeLine/\Vals xs its.toList
def cC(K:zzy)(H:Hp)(a:Addr)(xs:List V):Prop:=
 Rd H a (.tup xs) \/
  ∃(o:Obj) (its:Array Value) (n:Nat),K.lookup a=some o/\o.cls=.type "tuple" /\ o.data=.seq its n/\its.size<=sizeLine/\Vals xs its.toList
def ajY:Value->Option V
 | .none=>some .non
 | .bool b=>some (.bl b)
 | .int i _=>some (.int i)
 | .str x _=>some (.str x)
 | .bytes b _=>some (.Mw b)
 | .float b _=>some (.flt b)
 | .ref a=>some (.ref a)
 | .type n=>some (.ty n)
 | _=>none
def RelV.abs{x:V}(r:RelV x u):ajY u=some x:=by
 cases x with
 | non=>cases r;rfl
 | bl _=>cases r;rfl
 | int _=>obtain⟨t,rfl⟩:=r;rfl
 | str _=>obtain⟨t,rfl⟩:=r;rfl
 | Mw _=>obtain⟨t,rfl⟩:=r;rfl
 | flt _=>obtain⟨t,rfl⟩:=r;rfl
 | ref _=>cases r;rfl
 | ty _=>cases r;rfl
def RelV.inj{x:V}(r:RelV x u)(q:RelV y u):x=y:=aaY (r.abs.symm.trans q.abs)
theorem Vals.inj{xs ys:List V}{us:zzt}(h:Vals xs us)(h':Vals ys us):xs=ys:=by
 induction h generalizing ys with
 | nil=>cases h';rfl
 | cons r t c=>cases h' with
   | cons b a=>rw[r.inj b,c a]
def bF.of(h:H a=some (.lst xs)):bF K H a xs:= .inl (.inl h)
def cC.of(h:H a=some (.tup xs)):cC K H a xs:= .inl (.inl h)
def Inv.list(I:Inv X pins σ H s)(h:bF X.K H a xs):∃its:List Value,Vals xs its/\PlainL s.heap a its.toArray/\xs.length<=sizeLine:=by
 rcases h with h|⟨o,its,n,c,f,d,b,g,r⟩
 .obtain⟨z,its,n,r,e⟩:=h.ok I.hok
  exact⟨its,r,⟨_,n,e,Z,Z,Z⟩,z⟩
 .refine⟨its.toList,r,⟨o,n,I.oO a o c,f,d,by simpa using b⟩,?_⟩
  have e:=r.length;simp only[aaG] at e;lia
def Inv.tuple(I:Inv X pins σ H s)(h:cC X.K H a xs):∃its:List Value,Vals xs its/\IsTup s.heap a its.toArray/\xs.length<=sizeLine:=by
 rcases h with h|⟨o,its,n,c,d,b,f,r⟩
 .obtain⟨z,its,r,p⟩:=h.ok I.hok
  exact⟨its,r,p,z⟩
 .refine⟨its.toList,r,⟨o,I.oO a o c,d,n,by simpa using b⟩,?_⟩
  have e:=r.length;simp only[aaG] at e;lia
def Inv.vD(I:Inv X pins σ H s)(h:bF X.K H a xs)(h':bF X.K H a ys):xs=ys:=by
 obtain⟨c,r,⟨o,n,e,_,_,d⟩,_⟩:=I.list h;obtain⟨b,i,⟨j,k,f,_,_,g⟩,_⟩:=I.list h';rw[e] at f;cases f;rw[d] at g;injection g with d1 _
 have:c=b:=by simpa using congrArg Array.toList d1
 subst this;exact r.inj i
def Inv.wH(I:Inv X pins σ H s)(h:cC X.K H a xs)(h':cC X.K H a ys):xs=ys:=by
 obtain⟨c,r,⟨o,e,_,n,d⟩,_⟩:=I.tuple h;obtain⟨b,i,⟨j,f,_,k,g⟩,_⟩:=I.tuple h';rw[e] at f;cases f;rw[d] at g;injection g with d1 _
 have:c=b:=by simpa using congrArg Array.toList d1
 subst this;exact r.inj i
abbrev Cx.wish(X:Cx)(E:zzx):Cx:={X with xe:=E}
abbrev Cx.nox(X:Cx):Cx:=X.wish λ_ _=>False
theorem Cx.Ok.wish{X:Cx}(ok:X.Ok)(E:zzx):(X.wish E).Ok:=⟨ok.mod,ok.kind,ok.glob,ok.blt,ok.above,ok.inj,ok.has,ok.cab,ok.hd,ok.frames,ok.stk,ok.exf,ok.bs,ok.Mz,ok.GJ,ok.JK,ok.qe,ok.SM⟩
def Cx.Ok.qw(ok:(X.wish E).Ok):X.Ok:=⟨ok.mod,ok.kind,ok.glob,ok.blt,ok.above,ok.inj,ok.has,ok.cab,ok.hd,ok.frames,ok.stk,ok.exf,ok.bs,ok.Mz,ok.GJ,ok.JK,ok.qe,ok.SM⟩
theorem Inv.wish(I:Inv X pins σ H s)(E:zzx):Inv (X.wish E) pins σ H s:=⟨I.ok.wish E,I.os,I.bare,I.base,I.loc,I.cell,I.free,I.jr,I.pin,I.hok,I.len⟩
theorem Inv.qw(I:Inv (X.wish E) pins σ H s):Inv X pins σ H s:=⟨I.ok.qw,I.os,I.bare,I.base,I.loc,I.cell,I.free,I.jr,I.pin,I.hok,I.len⟩
theorem SP.qw{D:Ends}{f:Flow}{s':Shared}(h:SP (X.wish E) pins D f s'):SP X pins D f s':=by
 cases f with
 | next=>obtain⟨a,b,I,q⟩:=h;exact⟨a,b,I.qw,q⟩
 | brk=>obtain⟨a,b,I,q⟩:=h;exact⟨a,b,I.qw,q⟩
 | cont=>obtain⟨a,b,I,q⟩:=h;exact⟨a,b,I.qw,q⟩
 | ret u=>obtain⟨v,a,b,I,r,q⟩:=h;exact⟨v,a,b,I.qw,r,q⟩
theorem Ko.nox{st:List Stmt}{t:TS}(h:Ko X.nox st t):Ko X st t:=λa s b H D I hw=>
 wpAny_mono (h a s b H D (I.wish _) hw) (λ_ _ q=>q.qw) λ_ _ z=>False.elim z
section
variable{rest:List Stmt}{t u:TS}
def Ir:TS:=λD σ H=>D.nx σ H
def Ip(t u:TS):TS:=λD σ H=>t {D with nx:=u D} σ H
def bG:Ko X [] Ir:=λ_ _ a H _ I h=>wpAny_execs_nil ⟨a,H,I,h⟩
def aA(g:PS X st t)(e:Ko X rest u):Ko X (st::rest) (Ip t u):=by
 intro a s c H D I h;refine wpAny_execs_cons (dM (g a s c H {D with nx:=u D} I h) λf d q=>?_);cases f with
 | next=>
   obtain⟨b,j,i,q⟩:=q;exact e a d b j D i q
 | ret v=>exact q
 | brk=>exact q
 | cont=>exact q
def aJ(c:PS X st t):Ko X [st] t:=by
 intro a s b H D I h;refine wpAny_execs_cons (dM (c a s b H D I h) λf d q=>?_);cases f with
 | next=>exact wpAny_execs_nil q
 | ret v=>exact q
 | brk=>exact q
 | cont=>exact q
def abr:TS:=λD σ H=>D.bk σ H
def U9:PS X (.Break pos) abr:=λ_ _ a H _ I h=>wpAny_Break ⟨a,H,I,h⟩
def Inv.quiet(I:Inv X pins σ H s):interactive X.env=false:=by simp[interactive,I.ok.kind]
def Uc(a:TE):TS:=λD σ H=>a σ H λ_ H1=>D.nx σ H1
def cL(he:PE X e te)(hs:swapsWith e none pos.line X.env=pure false:=by rfl):PS X (.Expr e pos) (Uc te):=by intro a s b H D I h;exact wpAny_Expr_any (dM (he a s b H _ I h) λv d ⟨x,H1,c,f,q1⟩=>⟨b,H1,c,q1⟩) I.quiet hs
def Yd(a:TE):TS:=λD σ H=>a σ H D.rt
def aZ(he:PE X e te):PS X (.Return (some e) pos) (Yd te):=by intro a s b H D I h;exact wpAny_Return_some (dM (he a s b H _ I h) λv f ⟨x,H1,d,c,q1⟩=>⟨x,b,H1,d,c,q1⟩)
def ad6:TS:=λD _ H=>D.rt .non H
def YD:PS X (.Return none pos) ad6:=λ_ _ a H _ I h=>wpAny_Return_none ⟨.non,a,H,I,Z,h⟩
def ahA(c:TT)(t u:TS):TS:=λD σ H=>c σ H λb H1=>if b=true then t D σ H1 else u D σ H1
def bY{a b:List Stmt}(j:PT X c tc)(l:Ko X a t)(k:Ko X b u):PS X (.If c a b pos) (ahA tc t u):=by
 intro e s f H D I h;refine wpAny_If (dM (j e s f H _ I h) λd g ⟨H1,i,q1⟩=>?_);cases d with
 | true=>exact l e g f H1 D i q1
 | false=>exact k e g f H1 D i q1
def abk:TS:=λ_ _ _=>False
def U8:PS X st abk:=λ_ _ _ _ _ _ h=>h.elim
end
abbrev TG:=V->St->Hp->(St->Hp->Prop)->Prop
abbrev TGs:=List V->St->Hp->(St->Hp->Prop)->Prop
def PG(X:Cx)(target:Expr)(t:TG):Prop:=
 ∀(pins:zzw)(s:Shared)(σ:St)(H:Hp)(v:V)(u:Value)(Q:St->Hp->Prop),Inv X pins σ H s->RelV v u->t v σ H Q ->wpAny (model X.prog X.w) X.A (assign target X.env u) (λ_ s'=>∃a H',Inv X pins a H' s'/\Q a H') X.xe s
def PGs(X:Cx)(ts:List Expr)(t:TGs):Prop:=
 ∀(pins:zzw)(s:Shared)(σ:St)(H:Hp)(vs:List V)(us:zzt)(Q:St->Hp->Prop),Inv X pins σ H s->Vals vs us->t vs σ H Q ->wpAny (model X.prog X.w) X.A (assignInOrder ((assignEach ts X.env).map (·.2)) us) (λ_ s'=>∃a H',Inv X pins a H' s'/\Q a H') X.xe s
abbrev Xd:=V->V->V->Hp->(Hp->Prop)->Prop
def ada(X:Cx)(t:Xd):Prop:=
 ∀(pins:zzw)(s:Shared)(σ:St)(H:Hp)(o i v:V)(a b u:Value)(Q:Hp->Prop),Inv X pins σ H s->RelV o a->RelV i b->RelV v u->t o i v H Q ->wpAny (model X.prog X.w) X.A (setItem a b u) (λ_ s'=>∃H',Inv X pins σ H' s'/\Q H') X.xe s
abbrev TIp:=V->V->Hp->VK->Prop
def PIp(X:Cx)(op:Operator)(t:TIp):Prop:=
 ∀(pins:zzw)(s:Shared)(σ:St)(H:Hp)(x y:V)(v u:Value)(Q:VK),Inv X pins σ H s->RelV x v->RelV y u->t x y H Q ->wpAny (model X.prog X.w) X.A (inplaceOp op v u) (EP X pins σ Q) X.xe s
def bV(i:Nat):TG:=λv σ H Q=>Q (σ.set i (some v)) H
theorem bI(d:X.N.Nodup)(hi:X.N[i]?=some x)(b:Loc X.env.scope x)(c:X.fn x=true\/X.env.scope.names.lookup x=some .local:=by first |exact .inl rfl|exact .inr rfl|assumption):PG X (.Name x pos) (bV i):=by intro a s f H v u Q I r h;exact wpAny_assign_Name (uQ I d hi b r (λg e=>⟨_,H,e,h⟩) c)
def acM:TGs:=λvs σ H Q=>vs=[]/\Q σ H
inductive Ey(t:TG)(u:TGs)(vs:List V)(σ:St)(H:Hp)(Q:St->Hp->Prop):Prop|m:∀v r,vs=v::r->(t v σ H λσ' H'=>u r σ' H' Q)->Ey t u vs σ H Q
def Gw:PGs X [] acM:=by intro a s b H c d Q I r h;obtain⟨e,h⟩:=h;subst e;cases r;exact assignInOrder_nil ⟨b,H,I,h⟩
def oA{t:TG}{u:TGs}(j:PG X e t)(i:PGs X es u)(hs:(assignEach (e::es) X.env).map (·.2)=assign e X.env::(assignEach es X.env).map (·.2):=by rfl):PGs X (e::es) (Ey t u):=by
 intro a s c H m o Q I r h;obtain⟨v,n,k,h⟩:=h;subst k;cases r with
 | cons r f=>
   rw[hs];refine assignInOrder_cons (dM (j a s c H _ _ _ I r h) λ_ d g=>?_);obtain⟨b,H1,l,q1⟩:=g;exact i a d b H1 _ _ Q l f q1
inductive Wm(K:zzy)(n:Nat)(t:TGs)(v:V)(σ:St)(H:Hp)(Q:St->Hp->Prop):Prop|m:∀a xs,v=.ref a->cC K H a xs->xs.length=n->t xs σ H Q->Wm K n t v σ H Q
def abM{t:TGs}(x:X.calm=true)(h:PGs X es t)(q:(assignEach es X.env).length=n:=by rfl)(d:(assignEach es X.env).findIdx? (·.1)=none:=by rfl):PG X (.Tuple es k pos) (Wm X.K n t):=by intro c s f H v u Q I r hw;obtain⟨a,i,z,p,w,hw⟩:=hw;subst z;cases r;obtain⟨j,g,m,B⟩:=I.tuple p;refine assign_Tuple_tuple (I.ok.hd x) m (by simp[q,←w,g.length]) d λy l=>?_;have A:Inv X c f H {s with heap:=y}:=I.kept (t':=s.toks) λb o e=>l b o (aa7 (aas e)) e;exact h c _ f H i _ Q A (by simpa using g) hw
def acL(to a:TE)(t:Xd):TG:=λv σ H Q=>to σ H λo H1=>a σ H1 λi H2=>t o i v H2 λb=>Q σ b
def qP{o i:Expr}{f:TE}{t:Xd}(m:PE X o to)(hi:PE X i f)(hs:ada X t)(n:∀v,assign (.Subscript o i pos) X.env v=(do
   let b ←holding [v] (eval o X.env)
   let c ←holding [v,b] (eval i X.env)
   standAt pos
   holding [v,b,c] (setItem b c v)
   release [v,b,c] []):=by intro _;rfl):PG X (.Subscript o i pos) (acL to f t):=by
 intro a s d H v u Q I r h;rw[n];refine aaB (wpAny_holding (dM (m a s d H _ I h) λb j e=>?_));obtain⟨x,H1,w,l,q1⟩:=e;refine aaB (wpAny_holding (dM (hi a j d H1 _ w q1) λc g e=>?_));obtain⟨y,H2,q,k,q2⟩:=e;refine aaB (wpAny_standAt (aaB (wpAny_holding (dM (hs a g d H2 x y v b c u _ q l k r q2) λ_ A ⟨z,p,q3⟩=>?_))));exact wpAny_release ⟨d,z,p,q3⟩
def Yg(a:TE)(g:TG):TS:=λD σ H=>a σ H λx H1=>g x σ H1 D.nx
def pH{g:TG}(he:PE X e te)(f:PG X tg g)(hs:swapsWithSole [tg] e pos.line X.env=pure false:=by rfl)(hw:swappedStores [tg] e X.env=pure none:=by rfl)(i:(assignEach [tg] X.env).map (·.2)=[assign tg X.env]:=by rfl):PS X (.Assign [tg] e pos) (Yg te g):=by intro a s b H D I h;refine wpAny_Assign_stores (dM (he a s b H _ I h) λv c ⟨x,H1,j,d,q1⟩=>?_) hs hw;rw[i];exact dM (f a c b H1 x v _ j d q1) λ_ k q=>q
theorem bH(g:X.N.Nodup)(hi:X.N[i]?=some x)(d:Loc X.env.scope x)(he:PE X e te)(hs:swapsWith e (some (.Name x pos')) pos.line X.env=pure false:=by rfl)(f:X.fn x=true\/X.env.scope.names.lookup x=some .local:=by first |exact .inl rfl|exact .inr rfl|assumption):
 PS X (.Assign [.Name x pos'] e pos) (Yg te (bV i)):=by
 intro a s b H D I h;refine wpAny_Assign_Name (dM (he a s b H _ I h) λv m ⟨y,H1,k,c,q1⟩=>?_) hs;exact uQ k g hi d c (λl j=>⟨_,H1,j,q1⟩) f
def ahD(i:Nat)(b:TE)(a:TIp):TS:=λD σ H=>∃x,σ[i]?=some (some x)/\b σ H λy H1=>a x y H1 λz H2=>D.nx (σ.set i (some z)) H2
theorem abJ{q:TIp}(L:X.N.Nodup)(hi:X.N[i]?=some x)(o:Loc X.env.scope x)(he:PE X e te)(C:PIp X op q)(J:X.fn x=true\/X.env.scope.names.lookup x=some .local:=by first |exact .inl rfl|exact .inr rfl|assumption):
 PS X (.AugAssign (.Name x pos') op e pos) (ahD i te q):=by
 intro a s p H D I h;obtain⟨v,M,h⟩:=h;obtain⟨m,E,G⟩:=I.loc;have j:Vis X.env.scope x:=by rcases o with k|k;exact .inl k;exact .inr (.inl k)
 obtain⟨u,r,l⟩:=G i x v hi M j;refine wpAny_AugAssign_Name ?_
 have go:wpAny (model X.prog X.w) X.A (eval e X.env) (λw g=>wpAny (model X.prog X.w) X.A (inplaceOp op u w) (λr f=>wpAny (model X.prog X.w) X.A (storeName X.env x r) (λ_=>SP X a D .next) X.xe f) X.xe g) X.xe s:=by refine dM (he a s p H _ I h) λw t n=>?_;obtain⟨y,H1,P,B,q1⟩:=n;refine dM (C a t p H1 v y u w _ P r B q1) λz S n=>?_;obtain⟨Q,H2,O,A,q2⟩:=n;exact uQ O L hi o A (λR N=>⟨_,H2,N,q2⟩) J
 rcases l with ⟨b,F⟩|⟨b,c,K,d⟩
 .exact wpAny_loadName_local I.ok.kind b E F go
 .rcases b with b|b
  .exact wpAny_loadName_cell I.ok.kind b K d go
  .rcases o with k|k
   .have:X.env.scope.names.lookup x=some .free:=b
    rw[k] at this;cases this
   .have:X.env.scope.names.lookup x=some .free:=b
    rw[k] at this;cases this
def aec(to b c:TE)(d:V->V->Hp->VK->Prop)(a:TIp)(e:Xd):TS:=λD σ H=>to σ H λo H1=>b σ H1 λi H2=>d o i H2 λx j=>c σ j λy h=>a x y h λz g=>e o i z g λf=>D.nx σ f
def afG(X:Cx)(t:V->V->Hp->VK->Prop):Prop:=
 ∀(pins:zzw)(s:Shared)(σ:St)(H:Hp)(o i:V)(a b:Value)(Q:VK),Inv X pins σ H s->RelV o a->RelV i b->t o i H Q ->wpAny (model X.prog X.w) X.A (getItem a b) (EP X pins σ Q) X.xe s
def YF{o i:Expr}{l:TE}{g:TIp}{p:Xd}(F:PE X o to)(hi:PE X i l)(G:afG X X_)(he:PE X e te)(E:PIp X op g)(hs:ada X p)(J:∀c f new,augStore i c f new=(do holding [new,c,f] (setItem c f new);release [new,c,f] [];pure .next):=by intros;rfl):PS X (.AugAssign (.Subscript o i tpos) op e pos) (aec to l te X_ g p):=by intro a s b H D I h;refine wpAny_AugAssign_SubscriptAny (dM (F a s b H _ I h) λc z ⟨k,H1,P,n,q1⟩=>?_) J;refine dM (hi a z b H1 _ P q1) λf y d=>?_;obtain⟨j,H2,O,m,q2⟩:=d;refine dM (G a y b H2 k j c f _ O n m q2) λold x d=>?_;obtain⟨t,T,N,C,q3⟩:=d;refine dM (he a x b T _ N q3) λv w d=>?_;obtain⟨r,S,M,B,q4⟩:=d;refine dM (E a w b S t r old v _ M C B q4) λnew u d=>?_;obtain⟨q,R,L,A,q5⟩:=d;exact dM (hs a u b R k j q c f new _ L n m A q5) λ_ U ⟨Q,K,q6⟩=>⟨b,Q,K,q6⟩
inductive ipI(f:Int->Int->Int)(x y:V)(H:Hp)(Q:VK):Prop|m:∀i j,x=.int i->y=.int j->Q (.int (f i j)) H->ipI f x y H Q
def G3:PIp X .Add (ipI λi j=>i+j):=by intro a s f H x y v u Q I c b h;obtain⟨i,j,e,d,q⟩:=h;subst e;subst d;obtain⟨t,rfl⟩:=c;obtain⟨g,rfl⟩:=b;exact iadd_int ⟨.int _,H,I.tok _,⟨_,Z⟩,q⟩
def abg(c:TT)(e:TS):TS:=λD σ H=>∃W:Nat->St->Hp->Prop,(∃m,W m σ H) /\ ∀m σ H,W m σ H ->c σ H λb H1=>if b=true then ∃N:St->Hp->Prop,(∀a H',N a H' -> ∃d,d<m/\W d a H')/\e {D with nx:=N,ct:=N,bk:=D.nx} σ H1 else D.nx σ H1
def U6(p:PassesOwn (model X.prog X.w) X.A X.env X.xe)(B:PT X c tc)(C:Ko X body tb):PS X (.While c body [] pos) (abg tc tb):=by
 intro d s u H D I h;obtain⟨W,⟨m0,x⟩,turn⟩:=h;refine wpAny_While (codeAny_whileLoop (λn A=>∃g t,Inv X d g t A/\W n g t) ?_ m0 ⟨u,H,I,x⟩);rintro n z ⟨e,H1,E,w⟩;refine wpAny_passesOwn p (dM (B d z e H1 _ E (turn n e H1 w)) λb y ⟨H2,r,q2⟩=>?_);cases b with
 | true=>
   obtain⟨N,q,q2⟩:=q2;rw[adq rfl];refine wpAny_passesOwn p (dM (C d y e H2 _ r q2) λf F q3=>?_);cases f with
   | next=>
     obtain⟨a,i,o,k⟩:=q3;obtain⟨l,m,j⟩:=q a i k;exact⟨l,m,a,i,o,j⟩
   | cont=>
     obtain⟨a,i,o,k⟩:=q3;obtain⟨l,m,j⟩:=q a i k;exact⟨l,m,a,i,o,j⟩
   | brk=>exact q3
   | ret v=>exact q3
 | false=>
   rw[adp aaT];exact wpAny_execs_nil ⟨e,H2,r,q2⟩
structure It where
 go:Nat->Hp->Prop
 yld:Nat->Hp->V->Hp->Prop
 stop:Nat->Hp->Prop
def nR(X:Cx)(a:zzw)(H:Hp)(b:Addr):Prop:=H b=none/\b≠X.env.locals/\b∉X.fs/\(b∈X.ex\/X.s₀.heap.objs.size<=b)/\(∀x c,X.env.cells.lookup x=some c->c≠b) /\ ∀p∈X.pn++a,p.1≠b
theorem Inv.vN(I:Inv X pins σ H s)(a:s.heap.objs.size<=b)(f:H' b=none):nR X pins H' b:=by
 refine⟨f,Nat.ne_of_gt (aa_ I.lt a),I.aiZ a,.inr (adl I.sz a),λx c e z=>?_,λp d z=>?_⟩
 .obtain⟨v,q⟩:=I.cell x c e
  exact adt (aa_ q.lt (by rw[z];exact a)) (adk _)
 .exact adt (aa_ (aas (I.pin p d).1) (by rw[z];exact a)) (adk _)
structure Turn(P:Program)(w:World)(K:zzy)(tg:Expr)(J:It)(fp:List Addr)(it:Addr)(tn:Nat->Heap->Prop):Prop where
 mem:it∈fp
 obj:∀i h,tn i h -> ∀b∈fp,∃o,h.get? b=some o /\ ∀v,o.data ≠ .cell v
 keep:∀i h h',tn i h->(∀b∈fp,∀o,h.get? b=some o->h'.get? b=some o)->tn i h'
 item:∀(X:Cx),X.prog=P->X.w=w->X.K=K->X.calm=true -> ∀(i:Nat)(pins:zzw)(s:Shared)(σ:St)(H:Hp)(E:zzx),Inv X pins σ H s->(∀b∈fp,nR X pins H b)->tn i s.heap->J.go i H ->wpAny (model P w) X.A (pyNext (.ref it)) (λr s1=>∃u,r=some u /\wpAny (model P w) X.A (letOwnedTupleGo tg (.ref it) u) (λ_ s2=>∃x H',Inv X pins σ H' s2/\RelV x u/\J.yld i H x H'/\tn (i+1) s2.heap /\ ∀b∈fp,H' b=none) E s1) E s
 done:∀(X:Cx),X.prog=P->X.w=w->X.K=K->X.calm=true -> ∀(i:Nat)(pins:zzw)(s:Shared)(σ:St)(H:Hp)(E:zzx),Inv X pins σ H s->(∀b∈fp,nR X pins H b)->tn i s.heap->J.stop i H ->wpAny (model P w) X.A (pyNext (.ref it)) (λr s1=>r=none/\Inv X pins σ H s1) E s
 self:∀(A:Around)(i:Nat)(s:Shared)(Q:zzx)(E:zzx),tn i s.heap->Q (.ref it) s->wpAny (model P w) A (pyIter (.ref it)) Q E s
abbrev TI:=St->Hp->(It->Hp->Prop)->Prop
def PIE(X:Cx)(a:zzw)(e:St)(f:Expr)(R:It->Hp->Prop)(c:Value)(d:Shared):Prop:=∃(it:Addr) (fp:List Addr) (tn:Nat->Heap->Prop) (J:It) (H':Hp),c=.ref it/\Inv X a e H' d/\Turn X.prog X.w X.K f J fp it tn/\tn 0 d.heap/\(∀b∈fp,nR X a H' b)/\R J H'
def PI(X:Cx)(b iter:Expr)(a:TI):Prop:=
 ∀(pins:zzw)(s:Shared)(σ:St)(H:Hp)(R:It->Hp->Prop),Inv X pins σ H s->a σ H R ->wpAny (model X.prog X.w) X.A (eval iter X.env) (λv c=>wpAny (model X.prog X.w) X.A (pyIter v) (PIE X pins σ b R) X.xe c) X.xe s
def Ew{M:Model}{o:Obj}{n:String}{vs:Array Value}{Q:zzu}(b:s.heap.get? it=some o)(e:o.cls=.type n)(d:o.data=.fields vs)(c:["enumerate","zip","dict_itemiterator","dict_reverseitemiterator","odict_iterator","itertools.zip_longest","itertools.pairwise"].contains n=false)(a:Q () s):wpAny M A (letOwnedTupleGo tg (.ref it) u) Q E s:=by
 unfold letOwnedTupleGo
 cases tg<;>first
  | exact aaD a
  | (cases u<;>first
      | exact aaD a
      | (refine aaB (wpAny_load b ?_)
         rw[e,d];show wpAny M A (if (["enumerate","zip","dict_itemiterator","dict_reverseitemiterator","odict_iterator","itertools.zip_longest","itertools.pairwise"].contains n&&vs[0]? == some (rawInt _))=true then _ else _) Q E s;rw[adp (by intro h;rw[c,Bool.false_and] at h;cases h)];exact aaD a))
def XD(K:zzy)(a:Addr):It:=⟨λi H=>∃xs x,bF K H a xs/\xs[i]?=some x,λi H x H'=>H'=H /\ ∀xs,bF K H a xs->xs[i]?=some x,λi H=>∃xs,bF K H a xs/\xs.length<=i⟩
def Itt(K:zzy)(a:Addr):It:=⟨λi H=>∃xs x,cC K H a xs/\xs[i]?=some x,λi H x H'=>H'=H /\ ∀xs,cC K H a xs->xs[i]?=some x,λi H=>∃xs,cC K H a xs/\xs.length<=i⟩
def Xh(lo:Int)(n:Nat):It:=⟨λi _=>i<n,λi H x H'=>H'=H/\x=.int (lo+i),λi _=>n<=i⟩
def Qt(a it:Addr):Turn P w K tg (XD K a) [it] it (λi h=>h.IsListIter it a i) where
 mem:=by simp
 obj:=λi h f b j=>by
  have e:b=it:=by simpa using j
  subst e;obtain⟨o,e,c,d⟩:=f;exact⟨o,e,λv z=>by rw[d] at z;cases z⟩
 keep:=λi h q f k=>f.at λo e=>k it MZ o e
 item:=by intro X B hw C N i g s M H E I n f A;subst B hw C;obtain⟨O,x,m,y⟩:=A;obtain⟨t,r,p,S⟩:=I.list m;obtain⟨u,U,R⟩:=r.get y;obtain⟨L,J,V,G,F,D⟩:=n it MZ;refine wpAny_pyNext_list_item f p.isList (x:=u) (by simpa using U) λq l Q=>?_;have Y:Inv X g M H {s with heap:=q}:=I.turned (t':=s.toks) (λb o j e=>(Q.2 b j).trans e) L J G F D;obtain⟨o,e,c,d⟩:=id l;exact⟨u,Z,Ew (s:={s with heap:=q}) e c d DZ ⟨x,H,Y,R,⟨Z,λys T=>by rw[I.vD T m];exact y⟩,l,λb j=>(n b j).1⟩⟩
 done:=by intro X B hw C N i g s M H E I n f A;subst B hw C;obtain⟨O,m,y⟩:=A;obtain⟨t,r,p,S⟩:=I.list m;obtain⟨L,J,V,G,F,D⟩:=n it MZ;have hl:=r.length;exact wpAny_pyNext_list_end (I.ok.hd N) f p.isList (by simp;lia) λq W=>⟨Z,I.turned (t':=s.toks) (λb o j e=>W b o j e) L J G F D⟩
 self:=λ_ _ _ _ _ f h=>wpAny_pyIter_listiter f h
def KC(a it:Addr):Turn P w K tg (Itt K a) [it] it (λi h=>h.IsTupleIter it a i) where
 mem:=by simp
 obj:=λi h f b l=>by
  have e:b=it:=by simpa using l
  subst e;obtain⟨o,e,c,d⟩:=f;exact⟨o,e,λv z=>by rw[d] at z;cases z⟩
 keep:=λi h r f k=>f.at λo e=>k it MZ o e
 item:=by intro X B hw C N i g s M H E I q f A;subst B hw C;obtain⟨O,x,n,y⟩:=A;obtain⟨j,t,p,S⟩:=I.tuple n;obtain⟨u,U,R⟩:=t.get y;obtain⟨L,J,V,G,F,D⟩:=q it MZ;refine wpAny_pyNext_tuple_item f (show s.heap.IsTuple a j.toArray from p) (x:=u) (by simpa using U) λr m Q=>?_;have Y:Inv X g M H {s with heap:=r}:=I.turned (t':=s.toks) (λb o l e=>(Q.2 b l).trans e) L J G F D;obtain⟨o,e,c,d⟩:=id m;exact⟨u,Z,Ew (s:={s with heap:=r}) e c d DZ ⟨x,H,Y,R,⟨Z,λys T=>by rw[I.wH T n];exact y⟩,m,λb l=>(q b l).1⟩⟩
 done:=by intro X B hw C N i g s M H E I q f A;subst B hw C;obtain⟨O,n,y⟩:=A;obtain⟨j,t,p,S⟩:=I.tuple n;obtain⟨L,J,V,G,F,D⟩:=q it MZ;have hl:=t.length;exact wpAny_pyNext_tuple_end (I.ok.hd N) f (show s.heap.IsTuple a j.toArray from p) (by simp;lia) λr W=>⟨Z,I.turned (t':=s.toks) (λb o l e=>W b o l e) L J G F D⟩
 self:=λ_ _ _ _ _ f h=>wpAny_pyIter_tupleiter f h
def KD(it:Addr)(lo:Int)(n:Nat):Turn P w K tg (Xh lo n) [it] it (λi h=>IsRangeIter h it (lo+(i:Nat)*1) ((n:Int)-(i:Nat)) 1) where
 mem:=by simp
 obj:=λi h a b d=>by
  have e:b=it:=by simpa using d
  subst e
  exact⟨_,a,λv z=>by have D:Data.fields _=Data.cell v:=z;cases D⟩
 keep:=λi h j a k=>k it MZ _ a
 item:=by intro X p hw q m i c s B H E I g a l;subst p hw q;obtain⟨A,y,J,x,u,r⟩:=g it MZ;have W:=Walks.range (prog:=X.prog) (w:=X.w) (I.ok.hd m) it lo 1 n;refine W.item i s _ _ l a λv j C G f F=>?_;obtain⟨t,rfl⟩:=G;have M:Inv X c B H {s with heap:=j,toks:=C}:=I.turned (λb o d e=>F b o (by simpa using d) e) A y x u r;refine⟨_,Z,Ew (s:={s with heap:=j,toks:=C}) (n:= "range_iterator") f rfl rfl DZ ⟨.int (lo+i),H,M,⟨t,?_⟩,⟨Z,Z⟩,f,λb d=>(g b d).1⟩⟩;rw[Int.mul_one]
 done:=by intro X p hw q m i c s B H E I g a l;subst p hw q;obtain⟨A,y,J,x,u,r⟩:=g it MZ;exact wpAny_pyNext_range_end (I.ok.hd m) a (by have:n<=i:=l;lia) λj L=>⟨Z,I.turned (t':=s.toks) (λb o d e=>L b o d e) A y x u r⟩
 self:=λ_ _ _ _ _ a h=>wpAny_pyIter_rangeiter a h
inductive Pu(K:zzy)(R:It->Hp->Prop)(x:V)(H1:Hp):Prop|m:∀a,x=.ref a->(∃xs,bF K H1 a xs)->R (XD K a) H1->Pu K R x H1
def aaI(K:zzy)(a:TE):TI:=λσ H R=>a σ H λx H1=>Pu K R x H1
inductive Wa(K:zzy)(R:It->Hp->Prop)(x:V)(H1:Hp):Prop|m:∀a,x=.ref a->(∃xs,cC K H1 a xs)->R (Itt K a) H1->Wa K R x H1
def aeP(K:zzy)(a:TE):TI:=λσ H R=>a σ H λx H1=>Wa K R x H1
def YL{l:Expr}{g:TE}(r:PE X l g):PI X tg l (aaI X.K g):=by
 intro c s i H R I h;refine dM (r c s i H _ I h) λv d k=>?_;obtain⟨x,H1,f,j,q1⟩:=k;obtain⟨a,e,⟨u,n⟩,q⟩:=q1;subst e;cases j;obtain⟨m,w,p,y⟩:=f.list n;refine wpAny_pyIter_list p.isList ?_;refine⟨d.heap.objs.size,[d.heap.objs.size],_,_,H1,Z,f.kept (t':=d.toks) λb o e=>aaq _ e,Qt a _,⟨_,aar _ rfl,Z,Z⟩,λb t=>?_,q⟩;have e:b=d.heap.objs.size:=by simpa using t
 subst e;exact f.vN (aav _) (f.hok.fresh (aav _))
def abK{l:Expr}{i:TE}(r:PE X l i):PI X tg l (aeP X.K i):=by
 intro d s j H R I h;refine dM (r d s j H _ I h) λv c m=>?_;obtain⟨x,H1,f,k,q1⟩:=m;obtain⟨a,e,⟨u,n⟩,q⟩:=q1;subst e;cases k;obtain⟨g,w,p,y⟩:=f.tuple n;refine wpAny_pyIter_tuple (show c.heap.IsTuple a g.toArray from p) ?_;refine⟨c.heap.objs.size,[c.heap.objs.size],_,_,H1,Z,f.kept (t':=c.toks) λb o e=>aaq _ e,KC a _,⟨_,aar _ rfl,Z,Z⟩,λb t=>?_,q⟩;have e:b=c.heap.objs.size:=by simpa using t
 subst e;exact f.vN (aav _) (f.hok.fresh (aav _))
theorem Jd{R:It->Hp->Prop}{lo hi:Int}{t u v:Tok}{a:Nat}(I:Inv X pins σ H s)(i: -(2 ^ 62)<=lo)(h:lo<2 ^ 62)(g: -(2 ^ 62)<=hi)(f:hi<2 ^ 62)(q:R (Xh lo (hi-lo).toNat) H):wpAny (model X.prog X.w) X.A (pyIter (.ref s.heap.objs.size)) (PIE X pins σ tg R) E {s with heap:=s.heap.push {cls:= .type "range",data:= .fields #[.int lo t,.int hi u,.int 1 v]},toks:=a}:=by
 refine wpAny_pyIter_range (IsRange.new ..) (small_one i h g f) ?_;have c:Inv X pins σ H {s with heap:=s.heap.push {cls:= .type "range",data:= .fields #[.int lo t,.int hi u,.int 1 v]},toks:=a}:=I.kept λb o e=>aaq _ e
 refine⟨(s.heap.push {cls:= .type "range",data:= .fields #[.int lo t,.int hi u,.int 1 v]}).objs.size,[(s.heap.push {cls:= .type "range",data:= .fields #[.int lo t,.int hi u,.int 1 v]}).objs.size],_,_,H,Z,
  c.kept (t':=a) λb o e=>aaq _ e,KD _ lo (hi-lo).toNat,?_,λb d=>?_,q⟩
 .have k:lo+((0:Nat):Int)*1=lo:=by simp
  have j:(((hi-lo).toNat:Nat):Int)-((0:Nat):Int)=Builtin.Range.rangeSize lo hi 1:=by rw[rangeSize_one];split<;>lia
  show IsRangeIter _ _ (lo+((0:Nat):Int)*1) ((((hi-lo).toNat:Nat):Int)-((0:Nat):Int)) 1;rw[k,j];exact aar _ rfl
 .have e:b=(s.heap.push {cls:= .type "range",data:= .fields #[.int lo t,.int hi u,.int 1 v]}).objs.size:=by simpa using d
  subst e;exact c.vN (aav _) (c.hok.fresh (aav _))
inductive Pr(R:It->Hp->Prop)(vs:List V)(H1:Hp):Prop|m:∀j:Int,vs=[.int j] -> -(2 ^ 62)<=j->j<2 ^ 62->R (Xh 0 j.toNat) H1->Pr R vs H1
def aeR(a:TA):TI:=λσ H R=>a σ H λvs H1=>Pr R vs H1
def aeQ(a:TA):TI:=λσ H R=>a σ H λvs H1=>∃i j:Int,vs=[.int i,.int j]/\(-(2 ^ 62)<=i/\i<2 ^ 62 /\ -(2 ^ 62)<=j/\j<2 ^ 62)/\R (Xh i (j-i).toNat) H1
def cN{a:Expr}{c:TA}{p:Pos}(k:Gl X "range")(i:X.mg "range" = none)(l:PA X [a] c)(hs:starEach [a] X.env=[(false,eval a X.env)]:=by rfl):PI X tg (.Call (.Name "range" p) [a] [] pos) (aeR c):=by
 intro b s d H R I h;refine Call_ (pO I k i boot_range (PyProof.Rows.callWith_type1 (dM (l pos b s d H _ I h) λo u ⟨n,H1,m,g,q1⟩=>?_) hs rfl));obtain⟨j,e,q1,q2,q⟩:=q1;subst e;cases g with
 | cons r f=>
   cases f;obtain⟨t,rfl⟩:=r;exact call_range_1 (Jd m LZ LZ q1 q2 (by simpa using q))
def Ei{a b:Expr}{g:TA}{p:Pos}(o:Gl X "range")(n:X.mg "range" = none)(u:PA X [a,b] g)(hs:starEach [a,b] X.env=[(false,eval a X.env),(false,eval b X.env)]:=by rfl)(d:starEach [b] X.env=[(false,eval b X.env)]:=by rfl):
 PI X tg (.Call (.Name "range" p) [a,b] [] pos) (aeQ g):=by
 intro c s k H R I h;refine Call_ (pO I o n boot_range (PyProof.Rows.callWith_type1 (dM (u pos c s k H _ I h) λx z ⟨w,H1,v,l,q1⟩=>?_) (by rw[hs,d]) (by rw[d];rfl)));obtain⟨i,j,e,⟨q1,q2,q3,q4⟩,q⟩:=q1;subst e;cases l with
 | cons r f=>
   cases f with
   | cons m f=>
     cases f;obtain⟨t,rfl⟩:=r;obtain⟨y,rfl⟩:=m;exact call_range_2 (Jd v q1 q2 q3 q4 q)
def ahB(d:TI)(g:TG)(e:TS):TS:=λD σ H=>d σ H λJ H1=>∃W:Nat->Nat->St->Hp->Prop,(∃m,W 0 m σ H1) /\ ∀i m σ H,W i m σ H ->(J.stop i H/\D.nx σ H)\/(J.go i H /\ ∃N:St->Hp->Prop,(∀a H',N a H' -> ∃c,c<m/\W (i+1) c a H') /\ ∀x H',J.yld i H x H'->g x σ H' λb H2=>e {D with nx:=N,ct:=N,bk:=D.nx} b H2)
def Bm(a:List Addr)(h:Heap):List (Addr×Obj):=a.filterMap λb=>(h.get? b).map λo=>(b,o)
def pK{h:Heap}{o:Obj}(a:b∈fp)(e:h.get? b=some o):(b,o)∈Bm fp h:=List.mem_filterMap.mpr ⟨b,a,by rw[e];rfl⟩
def Q5{h:Heap}{p:Addr×Obj}(a:p∈Bm fp h):p.1∈fp/\h.get? p.1=some p.2:=by
 obtain⟨b,c,e⟩:=List.mem_filterMap.mp a;cases q:h.get? b with
 | none=>rw[q] at e;cases e
 | some o=>
   rw[q] at e;have d:(b,o)=p:=aaY e;subst d;exact⟨c,q⟩
def Inv.pinned(I:Inv X pins σ H s)(h:∀b∈fp,nR X pins H b)(g:∀b∈fp,∃o,s.heap.get? b=some o /\ ∀v,o.data ≠ .cell v):Inv X (pins++Bm fp s.heap) σ H s:=
 I.Oq λp f=>(abA.mp f).elim (λz=>I.pin p (List.mem_append_right _ z)) λz=>by obtain⟨a,e⟩:=Q5 z;obtain⟨k,j,i,_⟩:=h p.1 a;obtain⟨o,c,d⟩:=g p.1 a;rw[e] at c;cases c;exact⟨e,k,j,i,d⟩
def Inv.uN{pl:zzw}(I:Inv X (pins++pl) σ H s):Inv X pins σ H s:=I.Oq λp a=>I.pin p (List.mem_append_right _ (List.mem_append_left _ a))
theorem iI{S:TI}{g:TG}(A:PassesOwn (model X.prog X.w) X.A X.env X.xe)(hc:X.calm=true)(hi:PI X tg iter S)(hg:PG X tg g)(p:Ko X body tb)(hs:∀x,foldedSetIterable iter X.env x=pure x:=by intro _;rfl):PS X (.For tg iter body [] pos) (ahB S g tb):=by
 intro c s R H D I h;refine wpAny_For (dM (hi c s R H _ I h) λv s1 h1=>dM h1 λa0 s2 h2=>?_) hs;obtain⟨it,C,U,J,H2,e,I2,T,G,f2,W,⟨m0,w0⟩,turn⟩:=h2;subst e;have l:∀{w:Hp},(∀b∈C,w b=none) -> ∀b∈C,nR X c w b:=λhn b p=>⟨hn b p,(f2 b p).2⟩;refine codeAny_forLoop_any (λn s'=>∃i k w,Inv X c k w s'/\U i s'.heap/\(∀b∈C,w b=none)/\W i n k w) ?_ m0 ⟨0,R,H2,I2,G,λb p=>(f2 b p).1,w0⟩;rintro n Y ⟨i,j,E,I3,y,B,w3⟩;rcases turn i n j E w3 with ⟨stop,qn⟩|⟨go,N,hN,step⟩
 .refine wpAny_passesOwn A (dM (T.done X rfl rfl rfl hc i c Y j E X.xe I3 (l B) y stop) λr s4 ⟨M,I4⟩=>?_)
  subst M;exact wpAny_execs_nil ⟨j,E,I4,qn⟩
 .refine wpAny_passesOwn A (dM (T.item X rfl rfl rfl hc i c Y j E X.xe I3 (l B) y go) λr s4 ⟨u,M,h4⟩=>?_)
  subst M;refine wpAny_passesOwn A (dM h4 λ_ V L=>?_);obtain⟨x,H5,I5,r5,y5,P,O⟩:=L;have Q:=I5.pinned (l O) (T.obj _ _ P);refine wpAny_passesOwn A (dM (hg _ V j H5 x u _ Q r5 (step x H5 y5)) λ_ s6 L=>?_);obtain⟨F,H6,I6,q6⟩:=L;refine wpAny_passesOwn A (dM (p _ s6 F H6 _ I6 q6) λf K q7=>?_)
  have again:∀{a:St}{t:Hp},Inv X (c++Bm C V.heap) a t K->N a t -> ∃m,m<n /\ ∃i k w,Inv X c k w K/\U i K.heap/\(∀b∈C,w b=none)/\W i m k w:=fun {a t} q z=>by obtain⟨m',hm,w7⟩:=hN a t z;refine⟨m',hm,i+1,a,t,q.uN,T.keep _ _ _ P λb p o e=>(q.pin (b,o) (List.mem_append_right _ (List.mem_append_right _ (pK p e)))).1,λb p=>?_,w7⟩;obtain⟨o,e,d⟩:=T.obj _ _ P b p;exact(q.pin (b,o) (List.mem_append_right _ (List.mem_append_right _ (pK p e)))).2.1
  cases f with
  | next=>obtain⟨a,t,q,z⟩:=q7;exact again q z
  | cont=>obtain⟨a,t,q,z⟩:=q7;exact again q z
  | brk=>obtain⟨a,t,q,q7⟩:=q7;exact⟨a,t,q.uN,q7⟩
  | ret v=>obtain⟨x7,a,t,q,r7,q7⟩:=q7;exact⟨x7,a,t,q.uN,r7,q7⟩
def vO{g:TG}{D:Ends}(b:Nat->St->Hp->Prop)(o:b 0 σ H)(k:∀i σ H,i<=xs.length->b i σ H->bF K H a xs)(hs:∀i x σ H,xs[i]?=some x->b i σ H->g x σ H λc H2=>tb {D with nx:=b (i+1),ct:=b (i+1),bk:=D.nx} c H2)(n:∀σ H,b xs.length σ H->D.nx σ H):
 ∃W:Nat->Nat->St->Hp->Prop,(∃m,W 0 m σ H) /\ ∀i m σ H,W i m σ H ->((XD K a).stop i H/\D.nx σ H)\/((XD K a).go i H /\ ∃N:St->Hp->Prop,(∀d H',N d H' -> ∃h,h<m/\W (i+1) h d H') /\ ∀x H',(XD K a).yld i H x H'->g x σ H' λc H2=>tb {D with nx:=N,ct:=N,bk:=D.nx} c H2):=by
 refine⟨λi m σ H=>m=xs.length-i/\i<=xs.length/\b i σ H,⟨xs.length,MZ,Nat.zero_le _,o⟩,?_⟩;rintro i m σ H ⟨rfl,l,p⟩;have q:=k i σ H l p
 by_cases f:i<xs.length
 .refine .inr ⟨⟨xs,xs[i],q,by simp[f]⟩,b (i+1),λd H' j=>⟨xs.length-(i+1),LZ,Z,f,j⟩,λx H' y=>?_⟩
  obtain⟨e,y⟩:=y;subst e;exact hs i x σ _ (y xs q) p
 .have e:i=xs.length:=by lia
  subst e;exact .inl ⟨⟨xs,q,aav _⟩,n σ H p⟩
theorem gZ{lo:Int}{g:TG}{D:Ends}(d:Nat->St->Hp->Prop)(k:d 0 σ H)(hs:∀i σ H,i<n->d i σ H->g (.int (lo+i)) σ H λa H2=>tb {D with nx:=d (i+1),ct:=d (i+1),bk:=D.nx} a H2)(j:∀σ H,d n σ H->D.nx σ H):
 ∃W:Nat->Nat->St->Hp->Prop,(∃m,W 0 m σ H) /\ ∀i m σ H,W i m σ H ->((Xh lo n).stop i H/\D.nx σ H)\/((Xh lo n).go i H /\ ∃N:St->Hp->Prop,(∀b H',N b H' -> ∃f,f<m/\W (i+1) f b H') /\ ∀x H',(Xh lo n).yld i H x H'->g x σ H' λa H2=>tb {D with nx:=N,ct:=N,bk:=D.nx} a H2):=by
 refine⟨λi m σ H=>m=n-i/\i<=n/\d i σ H,⟨n,MZ,Nat.zero_le _,k⟩,?_⟩;rintro i m σ H ⟨rfl,l,p⟩
 by_cases c:i<n
 .refine .inr ⟨c,d (i+1),λb H' h=>⟨n-(i+1),LZ,Z,c,h⟩,λx H' y=>?_⟩
  obtain⟨e,y⟩:=y;subst e y;exact hs i σ _ c p
 .have e:i=n:=by lia
  subst e;exact .inl ⟨aav _,j σ H p⟩
abbrev R2:=V->V->Hp->VK->Prop
def sZ(X:Cx)(f:Value->Value->Sem Value)(r:R2):Prop:=
 ∀(pins:zzw)(s:Shared)(σ:St)(H:Hp)(x y:V)(v u:Value)(Q:VK),Inv X pins σ H s->RelV x v->RelV y u->r x y H Q ->wpAny (model X.prog X.w) X.A (f v u) (EP X pins σ Q) X.xe s
def UnR(X:Cx)(f:Value->Sem Value)(r:V->Hp->VK->Prop):Prop:=
 ∀(pins:zzw)(s:Shared)(σ:St)(H:Hp)(x:V)(v:Value)(Q:VK),Inv X pins σ H s->RelV x v->r x H Q ->wpAny (model X.prog X.w) X.A (f v) (EP X pins σ Q) X.xe s
def jm(X:Cx)(f:Value)(r:List V->Hp->VK->Prop):Prop:=
 ∀(pins:zzw)(s:Shared)(σ:St)(H:Hp)(xs:List V)(us:zzt)(Q:VK),Inv X pins σ H s->Vals xs us->r xs H Q ->wpAny (model X.prog X.w) X.A (call f us) (EP X pins σ Q) X.xe s
def aj3(X:Cx)(r:V->Hp->(Bool->Hp->Prop)->Prop):Prop:=
 ∀(pins:zzw)(s:Shared)(σ:St)(H:Hp)(x:V)(v:Value)(Q:Bool->Hp->Prop),Inv X pins σ H s->RelV x v->r x H Q ->wpAny (model X.prog X.w) X.A (truthy v) (TP X pins σ Q) X.xe s
def CT(r:R2)(b a:TE):TE:=λσ H Q=>b σ H λx H1=>a σ H1 λy H2=>r x y H2 Q
def tUn(r:V->Hp->VK->Prop)(a:TE):TE:=λσ H Q=>a σ H λx H1=>r x H1 Q
inductive rI(C:Int->Int->Prop)(g:Int->Int->V)(x y:V)(H:Hp)(Q:VK):Prop|m:∀i j,x=.int i->y=.int j->C i j->Q (g i j) H->rI C g x y H Q
inductive Yz(g:Int->Int->V)(x y:V)(H:Hp)(Q:VK):Prop|m:∀i j,x=.int i->y=.int j->Q (g i j) H->Yz g x y H Q
inductive rU(g:Int->V)(x:V)(H:Hp)(Q:VK):Prop|m:∀i,x=.int i->Q (g i) H->rU g x H Q
section
variable{a b:Expr}{tb tc:TE}
def ac2(n:PE X a ta)(m:PE X b tb){R:V->V->Hp->Prop}(I:Inv X pins σ H s)(h:ta σ H λx H1=>tb σ H1 λy H2=>R x y H2){f:Value->Value->Sem Value}(l:∀v u e x y H2,Inv X pins σ H2 e->RelV x v->RelV y u->R x y H2->wpAny (model X.prog X.w) X.A (f v u) Q X.xe e):
 wpAny (model X.prog X.w) X.A (eval a X.env) (λv d=>wpAny (model X.prog X.w) X.A (eval b X.env) (λu c=>wpAny (model X.prog X.w) X.A (f v u) Q X.xe c) X.xe d) X.xe s:=by
 refine dM (n pins s σ H _ I h) λv i g=>?_;obtain⟨x,H1,p,k,q1⟩:=g;refine dM (m pins i σ H1 _ p q1) λu e g=>?_;obtain⟨y,H2,o,j,q2⟩:=g;exact l v u e x y H2 o k j q2
def bR{r:R2}(i:sZ X (binaryOp op) r)(k:PE X a ta)(j:PE X b tb):PE X (.BinOp a op b pos) (CT r ta tb):=by intro c s d H Q I h;exact wpAny_BinOp (ac2 k j I h λv u e x y H2 l g f q=>i c e d H2 x y v u Q l g f q)
def aaw{op:UnaryOp}{r:V->Hp->VK->Prop}(f:UnR X (unaryOp op) r)(g:PE X a ta):PE X (.UnaryOp op a pos) (tUn r ta):=by intro b s c H Q I h;exact UnaryOp_ (dM (g b s c H _ I h) λv d ⟨x,H1,i,e,q1⟩=>f b d c H1 x v Q i e q1)
def opI{f:Value->Value->Sem Value}{C:Int->Int->Prop}{g:Int->Int->Int}(rule:∀(i j:Int)(t u:Tok)(s:Shared)(Q:zzx)(E:zzx),C i j->Q (.int (g i j) s.toks) {s with toks:=s.toks+1}->wpAny (model X.prog X.w) X.A (f (.int i t) (.int j u)) Q E s):
 sZ X f (rI C λi j=> .int (g i j)):=by
 intro a s k H x y v u Q I d c h;obtain⟨i,j,rfl,rfl,e,q⟩:=h;obtain⟨t,rfl⟩:=d;obtain⟨b,rfl⟩:=c;exact rule i j t b s _ _ e ⟨.int (g i j),H,I.tok _,⟨_,Z⟩,q⟩
def aex{f:Value->Value->Sem Value}{g:Int->Int->Int}(rule:∀(i j:Int)(t u:Tok)(s:Shared)(Q:zzx)(E:zzx),Q (.int (g i j) s.toks) {s with toks:=s.toks+1}->wpAny (model X.prog X.w) X.A (f (.int i t) (.int j u)) Q E s):
 sZ X f (Yz λi j=> .int (g i j)):=by
 intro a s e H x y v u Q I d c h;obtain⟨i,j,rfl,rfl,q⟩:=h;obtain⟨t,rfl⟩:=d;obtain⟨b,rfl⟩:=c;exact rule i j t b s _ _ ⟨.int (g i j),H,I.tok _,⟨_,Z⟩,q⟩
def YZ{f:Value->Value->Sem Value}{g:Int->Int->Bool}(rule:∀(i j:Int)(t u:Tok)(s:Shared)(Q:zzx)(E:zzx),Q (.bool (g i j)) s->wpAny (model X.prog X.w) X.A (f (.int i t) (.int j u)) Q E s):
 sZ X f (Yz λi j=> .bl (g i j)):=by
 intro a s e H x y v u Q I d c h;obtain⟨i,j,rfl,rfl,q⟩:=h;obtain⟨t,rfl⟩:=d;obtain⟨b,rfl⟩:=c;exact rule i j t b s _ _ ⟨.bl (g i j),H,I,Z,q⟩
def Kw(i j:Int):Prop:=0<=j/\j<=1000000/\i.natAbs<2 ^ 64
def adi(i j:Int):Prop:=(-(2 ^ 64)<i/\i<2 ^ 64)\/(-(2 ^ 64)<j/\j<2 ^ 64)
def adi.ok{i j:Int}(h:adi i j):IntMulOk i j:=by
 rcases h with ⟨b,a⟩|⟨b,a⟩
 .exact .of_left (intBits_le_64 b a)
 .exact .of_right (intBits_le_64 b a)
def i_:sZ X (binaryOp .Add) (Yz λi j=> .int (i+j)):=aex λ_ _ _ _ _ _ _ q=>add_int q
def pI:sZ X (binaryOp .Sub) (Yz λi j=> .int (i-j)):=aex λ_ _ _ _ _ _ _ q=>sub_int q
def Bp:sZ X (binaryOp .Mult) (rI adi λi j=> .int (i*j)):=opI λ_ _ _ _ _ _ _ a q=>mul_int q a.ok
def nH:sZ X (binaryOp .Mod) (rI (λ_ j=>0<j) λi j=> .int (i % j)):=opI λi j _ _ _ _ _ a q=>by have b:(0:Int)<j:=a;exact mod_int' LZ (by rw[Int.fmod_eq_emod_of_nonneg i LZ];exact q)
def qQ:sZ X (binaryOp .Pow) (rI Kw λi j=> .int (i ^ j.toNat)):=opI λ_ _ _ _ _ _ _ a q=>pow_int_small a.1 a.2.1 a.2.2 q
def unI{f:Value->Sem Value}{g:Int->Int}(rule:∀(i:Int)(t:Tok)(s:Shared)(Q:zzx)(E:zzx),Q (.int (g i) s.toks) {s with toks:=s.toks+1}->wpAny (model X.prog X.w) X.A (f (.int i t)) Q E s):
 UnR X f (rU λi=> .int (g i)):=by
 intro a s c H x v Q I b h;obtain⟨i,rfl,q⟩:=h;obtain⟨t,rfl⟩:=b;exact rule i t s _ _ ⟨.int (g i),H,I.tok _,⟨_,Z⟩,q⟩
def Tr:UnR X (unaryOp .USub) (rU λi=> .int (-i)):=unI λ_ _ _ _ _ q=>neg_int q
end
def aeg:V->V->Bool
 | .non,.non=>true | .non,.int _=>true | .int _,.non=>true | .non,.bl _=>true | .bl _,.non=>true | .non,.str _=>true | .str _,.non=>true
 | .int _,.int _=>true | .bl _,.bl _=>true | .str _,.str _=>true | .Mw _,.Mw _=>true
 | .int _,.str _=>true | .str _,.int _=>true | .bl _,.str _=>true | .str _,.bl _=>true
 | _,_=>false
def rEq:R2:=λx y H Q=>aeg x y=true/\Q (.bl (decide (x=y))) H
def rNe:R2:=λx y H Q=>aeg x y=true/\Q (.bl (!decide (x=y))) H
def PK{i j:Int}:decide (V.int i=V.int j)=(i==j):=by rw[Bool.eq_iff_iff];simp
def WQ{i j:Bool}:decide (V.bl i=V.bl j)=(i==j):=by rw[Bool.eq_iff_iff];simp
def PJ{i j:Str}:decide (V.str i=V.str j)=(i==j):=by rw[Bool.eq_iff_iff];simp
def PN{i j:Array UInt8}:decide (V.Mw i=V.Mw j)=(i.toList==j.toList):=by rw[Bool.eq_iff_iff];cases i;cases j;simp
section
variable{a b:Expr}{tb tc:TE}
def cJ{Q:VK}{k a:Bool}(I:Inv X pins σ H s)(q:Q (.bl k) H)(e:k=a):EP X pins σ Q (.bool a) s:=by subst e;exact⟨.bl k,H,I,Z,q⟩
def dZ:sZ X (compareOp .Eq) rEq:=by
 intro e s f H x y v u Q I d a h;obtain⟨c,q⟩:=h;cases x with
 | non=>
   cases d;cases y with
   | non=>cases a;exact PySem.EqNone.eq_none_none (cJ I q MZ)
   | bl j=>cases a;exact PySem.EqNone.eq_none_bool (cJ I q MZ)
   | int j=>obtain⟨b,rfl⟩:=a;exact PySem.EqNone.eq_none_int (cJ I q MZ)
   | str j=>obtain⟨b,rfl⟩:=a;exact PySem.EqNone.eq_none_str (cJ I q MZ)
   | _=>exact adt (show false=true from c) aaT
 | bl i=>
   cases d;cases y with
   | non=>cases a;exact PySem.EqNone.eq_bool_none (cJ I q MZ)
   | bl j=>cases a;exact eq_bool (cJ I q WQ)
   | str j=>obtain⟨b,rfl⟩:=a;exact PySem.EqMixed.eq_bool_str (cJ I q MZ)
   | _=>exact adt (show false=true from c) aaT
 | int i=>
   obtain⟨t,rfl⟩:=d;cases y with
   | non=>cases a;exact PySem.EqNone.eq_int_none (cJ I q MZ)
   | int j=>obtain⟨b,rfl⟩:=a;exact eq_int (cJ I q PK)
   | str j=>obtain⟨b,rfl⟩:=a;exact PySem.EqMixed.eq_int_str (cJ I q MZ)
   | _=>exact adt (show false=true from c) aaT
 | str i=>
   obtain⟨t,rfl⟩:=d;cases y with
   | non=>cases a;exact PySem.EqNone.eq_str_none (cJ I q MZ)
   | bl j=>cases a;exact PySem.EqMixed.eq_str_bool (cJ I q MZ)
   | int j=>obtain⟨b,rfl⟩:=a;exact PySem.EqMixed.eq_str_int (cJ I q MZ)
   | str j=>obtain⟨b,rfl⟩:=a;exact eq_str (cJ I q PJ)
   | _=>exact adt (show false=true from c) aaT
 | Mw i=>
   obtain⟨t,rfl⟩:=d;cases y with
   | Mw j=>obtain⟨b,rfl⟩:=a;exact W.eq_bytes (cJ I q PN)
   | _=>exact adt (show false=true from c) aaT
 | _=>cases y<;>exact adt (show false=true from c) aaT
theorem oG:sZ X (compareOp .NotEq) rNe:=by
 intro e s f H x y v u Q I d a h;obtain⟨c,q⟩:=h;cases x with
 | non=>
   cases d;cases y with
   | non=>cases a;exact PySem.EqNone.ne_none_none (cJ I q MZ)
   | bl j=>cases a;exact PySem.EqNone.ne_none_bool (cJ I q MZ)
   | int j=>obtain⟨b,rfl⟩:=a;exact PySem.EqNone.ne_none_int (cJ I q MZ)
   | str j=>obtain⟨b,rfl⟩:=a;exact PySem.EqNone.ne_none_str (cJ I q MZ)
   | _=>exact adt (show false=true from c) aaT
 | bl i=>
   cases d;cases y with
   | non=>cases a;exact PySem.EqNone.ne_bool_none (cJ I q MZ)
   | bl j=>cases a;exact ne_bool (cJ I q (congrArg not WQ))
   | str j=>obtain⟨b,rfl⟩:=a;exact PySem.EqMixed.ne_bool_str (cJ I q MZ)
   | _=>exact adt (show false=true from c) aaT
 | int i=>
   obtain⟨t,rfl⟩:=d;cases y with
   | non=>cases a;exact PySem.EqNone.ne_int_none (cJ I q MZ)
   | int j=>obtain⟨b,rfl⟩:=a;exact ne_int (cJ I q (congrArg not PK))
   | str j=>obtain⟨b,rfl⟩:=a;exact PySem.EqMixed.ne_int_str (cJ I q MZ)
   | _=>exact adt (show false=true from c) aaT
 | str i=>
   obtain⟨t,rfl⟩:=d;cases y with
   | non=>cases a;exact PySem.EqNone.ne_str_none (cJ I q MZ)
   | bl j=>cases a;exact PySem.EqMixed.ne_str_bool (cJ I q MZ)
   | int j=>obtain⟨b,rfl⟩:=a;exact PySem.EqMixed.ne_str_int (cJ I q MZ)
   | str j=>obtain⟨b,rfl⟩:=a;exact ne_str (cJ I q (congrArg not PJ))
   | _=>exact adt (show false=true from c) aaT
 | Mw i=>
   obtain⟨t,rfl⟩:=d;cases y with
   | Mw j=>obtain⟨b,rfl⟩:=a;exact W.ne_bytes (cJ I q (congrArg not PN))
   | _=>exact adt (show false=true from c) aaT
 | _=>cases y<;>exact adt (show false=true from c) aaT
def tV:sZ X (compareOp .Lt) (Yz λi j=> .bl (decide (i<j))):=YZ λ_ _ _ _ _ _ _ q=>lt_int q
def aay:sZ X (compareOp .LtE) (Yz λi j=> .bl (decide (i<=j))):=YZ λ_ _ _ _ _ _ _ q=>le_int q
def aaz:sZ X (compareOp .Gt) (Yz λi j=> .bl (decide (j<i))):=YZ λ_ _ _ _ _ _ _ q=>gt_int q
def aaA:sZ X (compareOp .GtE) (Yz λi j=> .bl (decide (j<=i))):=YZ λ_ _ _ _ _ _ _ q=>ge_int q
def Gz:sZ X (compareOp .Is) (λx y H Q=>y=.non/\Q (.bl (decide (x=.non))) H):=by
 intro b s d H x y v u Q I a c h;obtain⟨rfl,q⟩:=h;cases c;refine is_none_gen (cJ I q ?_)
 cases x<;>first
  | (cases a;rfl)
  | (obtain⟨t,rfl⟩:=a;rfl)
def Ou:sZ X (compareOp .IsNot) (λx y H Q=>y=.non/\Q (.bl (!decide (x=.non))) H):=by
 intro b s d H x y v u Q I a c h;obtain⟨rfl,q⟩:=h;cases c;refine isnot_none_gen (cJ I q ?_)
 cases x<;>first
  | (cases a;rfl)
  | (obtain⟨t,rfl⟩:=a;rfl)
def isObj:HO->Bool
 | .lst _=>true
 | .ins _ _ _=>true
 | _=>false
def bh(b:Expr){op:CmpOp}(h:op ≠ .In:=by decide)(a:op ≠ .NotIn:=by decide):behindInMarks op b=false:=by
 have d:(op==CmpOp.In)=false:=by cases op<;>first |rfl|exact adt rfl h
 have c:(op==CmpOp.NotIn)=false:=by cases op<;>first |rfl|exact adt rfl a
 cases b<;>simp[behindInMarks,d,c]
def cU{op:CmpOp}{r:R2}(i:sZ X (compareOp op) r)(l:PE X a ta)(k:PE X b tb)(j:behindInMarks op b=false):PE X (.Compare a [op] [b] pos) (CT r ta tb):=by intro c s d H Q I h;exact wpAny_Compare1 (ac2 l k I h λv u e x y H2 m g f q=>i c e d H2 x y v u Q m g f q) j
inductive NP(Q:Bool->Hp->Prop)(x:V)(H':Hp):Prop|m:∀k,x=.bl k->Q k H'->NP Q x H'
def TY(t:TE):TT:=λσ H Q=>t σ H λx H'=>NP Q x H'
def bD{op:CmpOp}{r:R2}(n:sZ X (compareOp op) r)(q:PE X a ta)(p:PE X b tb)(o:behindInMarks op b=false):PT X (.Compare a [op] [b] pos) (TY (CT r ta tb)):=by
 intro d s f H Q I h
 refine wpAny_isTrue_Compare1 (dM (q d s f H _ I h) λv i ⟨x,H1,A,m,q1⟩=>dM (p d i f H1 _ A q1) λu g ⟨y,H2,w,l,q2⟩=>
  dM (n d g f H2 x y v u _ w m l q2) λc C ⟨z,B,t,j,k,e,q3⟩=>?_) o
 subst e;cases j;exact wpAny_truthy_bool ⟨B,t,q3⟩
def abp(r f:R2)(e d c:TE):TE:=λσ H Q=>e σ H λx H1=>d σ H1 λy H2=>r x y H2 λz a=>∃k,z=.bl k /\(if k=true then c σ a λb g=>f y b g Q else Q (.bl false) a)
def Vi{op g:CmpOp}{r m:R2}(F:sZ X (compareOp op) r)(j:sZ X (compareOp g) m)(L:PE X a ta)(K:PE X b tb)(J:PE X c tc)(G:lastMarks [op,g] [b,c]=false:=by with_unfolding_all rfl):PE X (.Compare a [op,g] [b,c] pos) (abp r m ta tb tc):=by
 intro f s i H Q I h
 refine Compare_chain (dM (L f s i H _ I h) λv B ⟨x,H1,O,E,q1⟩=>chain_link (dM (K f B i H1 _ O q1) λu A ⟨y,H2,N,l,q2⟩=>
  dM (F f A i H2 x y v u _ N E l q2) λd w ⟨z,o,n,D,k,e,q3⟩=>?_)) G
 subst e;cases D;refine wpAny_truthy_bool ?_;cases k with
 | false=>exact ite_ff ⟨.bl false,o,n,Z,q3⟩
 | true=>exact ite_tt (chain_last (dM (J f w i o _ n q3) λq t ⟨p,P,M,C,q4⟩=>j f t i P y p u q Q M l C q4))
def ac5(K:zzy)(x:V)(H:Hp)(k:Bool):Prop:=
 match x with
 | .non=>k=false
 | .bl b=>k=b
 | .int i=>k=(i != 0)
 | .str y=>y.length<=sizeLine/\k=((y.length:Int) != 0)
 | .Mw y=>y.size<=sizeLine/\k=((y.size:Int) != 0)
 | .ref p=>(∃xs,bF K H p xs/\k = !xs.isEmpty)\/(∃xs,cC K H p xs/\k = !xs.isEmpty) \/ ∃kvs,H p=some (.dK kvs)/\k = !kvs.isEmpty
 | _=>False
def LQ{κ:Type}{a:List (κ×V)}{vs:List (κ×Value)}(r:KV a vs):(!vs.isEmpty) = !a.isEmpty:=by cases r<;>rfl
def BR(r:Vals xs its):(!its.toArray.isEmpty) = !xs.isEmpty:=by cases r<;>simp
def ur:(sizeLine:Nat)<2 ^ 63:=by rw[sizeLine_eq];decide
def abb:aj3 X (λx H Q=>∃k,ac5 X.K x H k/\Q k H):=by
 intro u s B H x v Q I g h;obtain⟨k,e,q⟩:=h;have D:=ur;have C:sizeLine=16777216:=sizeLine_eq;cases x with
 | non=>
   cases g;have a:k=false:=e;subst a;exact truthy_none ⟨H,I,q⟩
 | bl b=>
   cases g;have a:k=b:=e;subst a;exact wpAny_truthy_bool ⟨H,I,q⟩
 | int i=>
   obtain⟨t,rfl⟩:=g;have a:k=(i != 0):=e;subst a;exact PySem.P.truthy_int ⟨H,I,q⟩
 | str y=>
   obtain⟨t,rfl⟩:=g;obtain⟨z,a⟩:y.length<=sizeLine/\k=((y.length:Int) != 0):=e;subst a;exact PySem.P.truthy_str LZ ⟨H,I.tok _,q⟩
 | Mw y=>
   obtain⟨t,rfl⟩:=g;obtain⟨z,a⟩:y.size<=sizeLine/\k=((y.size:Int) != 0):=e;subst a;exact W.truthy_bytes LZ ⟨H,I.tok _,q⟩
 | ref p=>
   cases g;have a:(∃f,bF X.K H p f/\k = !f.isEmpty)\/(∃f,cC X.K H p f/\k = !f.isEmpty) \/ ∃c,H p=some (.dK c)/\k = !c.isEmpty:=e;rcases a with ⟨f,j,a⟩|⟨f,j,a⟩|⟨c,j,a⟩
   .subst a
    obtain⟨o,r,n,w⟩:=I.list j;have d:=r.length;exact wpAny_truthy_list n.isList (by simp only[aaX];lia) ⟨H,I.tok _,by rw[BR r];exact q⟩
   .subst a
    obtain⟨o,r,n,w⟩:=I.tuple j;have d:=r.length;exact truthy_tuple n (by simp only[aaX];lia) ⟨H,I.tok _,by rw[BR r];exact q⟩
   .subst a
    obtain⟨w,A,l,r,m⟩:c.length<=sizeLine/\(p==sysModules)=false /\ ∃l,KV c l/\s.heap.DictOf (fX X.prog X.w) p l:=I.hok p _ j;have d:c.length=l.length:=Paired.length r;exact wpAny_truthy_dict A m LZ ⟨H,I.tok _,by rw[LQ r];exact q⟩
 | _=>exact(show False from e).elim
def U5(e:PE X a ta)(he:∀whole,isTrue a X.env whole=(do let v ←whole;standAt a.pos;holding [v] (truthy v))):
 PT X a (λσ H Q=>ta σ H λx H'=>∃k,ac5 X.K x H' k/\Q k H'):=by
 intro b s σ H Q I h;exact isTrue_plain (dM (e b s σ H _ I h) λv c ⟨x,H1,f,d,q1⟩=>abb b c σ H1 x v Q f d q1) (he _)
def vals1{x:V}(r:Vals [x] us):∃u,us=[u]/\RelV x u:=by
 cases r with
 | cons b a=>cases a;exact⟨_,Z,b⟩
def vals2{x:V}(r:Vals [x,y] us):∃u a,us=[u,a]/\RelV x u/\RelV y a:=by
 cases r with
 | cons e d=>
   cases d with
   | cons c b=>cases b;exact⟨_,_,Z,e,c⟩
def Sg(c:X.calm=true):jm X (.builtin "max") (λxs H Q=>∃i j,xs=[.int i,.int j]/\Q (.int (if j>i then j else i)) H):=by
 intro b s d H xs f Q I r h;obtain⟨i,j,rfl,q⟩:=h;obtain⟨u,e,rfl,⟨t,rfl⟩,⟨l,rfl⟩⟩:=vals2 r;refine max_two_ints (I.ok.hd c) λm g k=>⟨_,H,I.kept k,?_,q⟩
 by_cases a:j>i
 .rw[adq a,adq a];exact⟨_,Z⟩
 .rw[adp a,adp a];exact⟨_,Z⟩
def Sd(c:X.calm=true):jm X (.builtin "min") (λxs H Q=>∃i j,xs=[.int i,.int j]/\Q (.int (if j<i then j else i)) H):=by
 intro b s d H xs f Q I r h;obtain⟨i,j,rfl,q⟩:=h;obtain⟨u,e,rfl,⟨t,rfl⟩,⟨l,rfl⟩⟩:=vals2 r;refine min_two_ints (I.ok.hd c) λm g k=>⟨_,H,I.kept k,?_,q⟩
 by_cases a:j<i
 .rw[adq a,adq a];exact⟨_,Z⟩
 .rw[adp a,adp a];exact⟨_,Z⟩
def xV:jm X (.type "int") (λxs H Q=>(∃i,xs=[.int i]/\Q (.int i) H) \/ ∃k,xs=[.bl k]/\Q (.int (if k then 1 else 0)) H):=by
 intro a s c H xs d Q I r h;rcases h with ⟨i,rfl,q⟩|⟨k,rfl,q⟩
 .obtain⟨u,rfl,t,rfl⟩:=vals1 r
  exact call_int_int ⟨.int i,H,I,⟨_,Z⟩,q⟩
 .obtain⟨u,rfl,b⟩:=vals1 r
  cases b;exact call_int_bool ⟨.int (if k then 1 else 0),H,I.tok _,⟨_,Z⟩,q⟩
end
structure M4(h:Heap)(x dx C:Addr)(mA:zzv):Prop where
 obj:h.get? x=some (W.instObj C dx)
 ns:h.Ns1 dx mA
 ne:dx≠x
def En{h:Heap}{d:Addr}(n:h.Ns1 d mA):∃od,h.get? d=some od /\ ∀name,W.lookIn name od=some (mA name):=by
 obtain⟨o,c,m,g,k,j,_,i⟩:=n;refine⟨o,g,λname=>?_⟩;have e:=i name;unfold nsFind findBy at e;rw[←Array.find?_toList] at e;unfold W.lookIn;rw[k];dsimp only;split
 .rename_i y q
  rw[q] at e;exact congrArg some e
 .rename_i q
  rw[q] at e
  have a:c.toList.any (·.refKey)=false:=by rw[List.any_eq_false];intro y f;obtain⟨z,t,b⟩:=j y (Array.mem_toList_iff.mp f);simp[DictEntry.refKey,b]
  have l:¬c.toList.any (·.refKey)=true:=by rw[a];exact aaT
  rw[adp l];exact congrArg some e
def M4.look{h:Heap}{x a:Addr}(I:M4 h x a C mA):∃od,W.InstAt h x (W.instObj C a) C (some od) /\ ∀name,W.lookIn name od=some (mA name):=
 let ⟨od,b,c⟩:=En I.ns
 ⟨od,⟨I.obj,Z,Z,b⟩,c⟩
section
variable{prog:Program}{x dx:Addr}{v:Value}
def get_map(X:K.In s.heap)(I:M4 s.heap x dx C mA)(e:W.plainGet K C name=true)(d:W.hasDictIn K C=true)(f:W.findIn K (.ref C) name=some none)(b:mA name=some v)(a:W.handedIn v=true)(h:Q v {s with toks:=s.toks+1}):
 wpAny (model prog w) A (getAttr (.ref x) name expr) Q E s:=by
 obtain⟨g,J,c⟩:=I.look;exact W.get_value X J (W.plainGet_of e).1 (W.findObj_own d f rfl (by rw[c,b])) a h
def Wj{pl:Sem Bool}{Q:Value×List Value->Shared->Prop}(X:K.In s.heap)(I:M4 s.heap x dx C mA)(a:W.plainGet K C name=true)(g:W.findIn K (.ref C) name=some (some (.ref f)))(d:W.isFn K (.ref f)=true)(c:mA name=none)(h:Q (.ref f,[.ref x]) s):
 wpAny (model prog w) A (getMethod (.ref x) name pl) Q E s:=by
 obtain⟨b,J,e⟩:=I.look;exact W.method_fn X J (W.plainGet_of a).1 (W.plainGet_of a).2 g (beq_iff_eq.mp d) (by show (W.lookIn name b).map (·.isSome)=some false;rw[e,c];rfl) h
def Yn{ns:List Str}{Q:zzu}(X:K.In s.heap)(I:M4 s.heap x dx C mA)(hs:W.findIn K (.ref C) "__setattr__" = some (some (.builtin "object.__setattr__")))(m:W.plainOver K C=true)(k:W.takerIn K C name=some none)(n:W.hasDictIn K C=true)(hw:PySem.Within mA ns)(l:ns.length<=sizeLine)(h:∀h',M4 h' x dx C (λy=>if y=name then some v else mA y)->Heap.SameBut dx s.heap h'->Q () {s with heap:=h',toks:=s.toks+2}):
 wpAny (model prog w) A (setAttr (.ref x) name v) Q E s:=by
 obtain⟨t,J,u⟩:=I.look;refine W.set_plain X J hs (W.osa_open (s:={s with toks:=s.toks+1}) (r:=none) X J m k λb=>?_);obtain⟨cd,o,g⟩:=W.any_some n;have j:s.heap.get? x=some ⟨.ref C,some dx,.plain, #[]⟩:=I.obj;refine aaB (aaD (aaB (aaB (wpAny_loadPart j (aaB (W.Looks.here (s:={s with toks:=s.toks+1}) (W.looks_clsIn X o) ?_))))));rw[g];refine aaD (a:=some dx) (aaB (aaD (aaB ?_)));refine wpAny_nsSet1 (s:={s with toks:=s.toks+1}) I.ns λh' d c=>?_;obtain⟨oD,p,q,e,f,i⟩:=d.count (PySem.Within.cons name v hw);refine aaB (wpAny_lookBehind e (by rw[f];exact pastItsLine_dict (adl i (by rw[ac8];lia))) ?_);exact aaD (h _ ⟨(c.2 _ (Ne.symm I.ne)).trans I.obj,d,I.ne⟩ c)
def V1{R:Result->Shared->Prop}{vs:zzt}(X:K.In s.heap)(a:W.makesIn K C=true)(hi:W.findIn K (.ref C) "__init__" = some (some (.ref f)))(b:W.typeIn K (.ref f)=some (.type "function"))(h:codeAny (model prog w) (A.under (.builtin "type.__call__" ⟨.ref C::vs,kw⟩)) (.call (.ref f) ⟨.ref (s.heap.objs.size+1)::vs,kw⟩) (W.InitBack (s.heap.objs.size+1) R)
   {s with heap:=(s.heap.push W.emptyDict).push (W.instObj C s.heap.objs.size)}):
 codeAny (model prog w) A (.call (.ref C) ⟨vs,kw⟩) R s:=by
 obtain⟨c,g,d,t,os⟩:=s;exact W.make_core (W.makes_of X a) (W.looks_findIn X hi) (λself=>W.bind_fn X self b) (.inl rfl) h
end
def cM(f:Str)(v:V):List (Str×V)->List (Str×V)
 | []=>[(f,v)]
 | (g,x)::r=>if g=f then (g,v)::r else (g,x)::cM f v r
theorem yp(f g:Str)(v:V):∀c:List (Str×V),(cM f v c).lookup g=if g=f then some v else c.lookup g
 | []=>by
   show List.lookup g [(f,v)]=_
   by_cases h:g=f
   .have a:(g==f)=true:=beq_iff_eq.mpr h
    simp only[List.lookup,a,adq h]
   .have a:(g==f)=false:=beq_eq_false_iff_ne.mpr h
    simp only[List.lookup,a,adp h]
 | (k,x)::r=>by
   have d:=yp f g v r;rw[show cM f v ((k,x)::r)=(if k=f then (k,v)::r else (k,x)::cM f v r) from rfl]
   by_cases b:k=f
   .rw[adq b]
    by_cases h:g=k
    .have a:(g==k)=true:=beq_iff_eq.mpr h
     simp only[List.lookup,a,adq (h.trans b)]
    .have a:(g==k)=false:=beq_eq_false_iff_ne.mpr h
     simp only[List.lookup,a,adp (λe:g=f=>h (e.trans b.symm))]
   .rw[adp b]
    by_cases h:g=k
    .have a:(g==k)=true:=beq_iff_eq.mpr h
     simp only[List.lookup,a,adp (λe:g=f=>b (h.symm.trans e))]
    .have a:(g==k)=false:=beq_eq_false_iff_ne.mpr h
     simp only[List.lookup,a];exact d
theorem xK(f:Str)(v:V):∀b:List (Str×V),f∈(cM f v b).map (·.1) /\ ∀g,g∈b.map (·.1)->g∈(cM f v b).map (·.1)
 | []=>⟨by simp[cM],λg h=>by simp at h⟩
 | (k,x)::r=>by
   obtain⟨d,c⟩:=xK f v r;rw[show cM f v ((k,x)::r)=(if k=f then (k,v)::r else (k,x)::cM f v r) from rfl]
   by_cases a:k=f
   .rw[adq a]
    subst a;exact⟨MZ,λg h=>by simpa using h⟩
   .rw[adp a]
    refine⟨?_,λg h=>?_⟩
    .rw[List.map_cons]
     exact abz _ d
    .rw[List.map_cons] at h ⊢
     rcases List.mem_cons.mp h with e|e
     .exact List.mem_cons.mpr (.inl e)
     .exact abz _ (c g e)
theorem yr(f:Str)(v:V):∀b:List (Str×V),(cM f v b).length<=b.length+1
 | []=>by simp[cM]
 | (k,x)::r=>by
   have c:=yr f v r;rw[show cM f v ((k,x)::r)=(if k=f then (k,v)::r else (k,x)::cM f v r) from rfl]
   by_cases a:k=f
   .rw[adq a,ac8,ac8];lia
   .rw[adp a,ac8,ac8];lia
def nM.some_of{o:Option Value}(r:nM (some v) o):∃u,o=some u/\RelV v u:=by
 cases o with
 | none=>exact(show False from r).elim
 | some u=>exact⟨u,Z,r⟩
def nM.none_of{o:Option Value}(r:nM none o):o=none:=by
 cases o with
 | none=>rfl
 | some u=>exact(show False from r).elim
def Eu(r:RelV v u):W.handedIn u=true:=by
 cases v with
 | non=>cases (show u=Value.none from r);rfl
 | bl b=>cases (show u=Value.bool b from r);rfl
 | int i=>obtain⟨t,e⟩:=(show ∃t,u=Value.int i t from r);cases e;rfl
 | str x=>obtain⟨t,e⟩:=(show ∃t,u=Value.str x t from r);cases e;rfl
 | Mw b=>obtain⟨t,e⟩:=(show ∃t,u=Value.bytes b t from r);cases e;rfl
 | flt b=>obtain⟨t,e⟩:=(show ∃t,u=Value.float b t from r);cases e;rfl
 | ref a=>cases (show u=Value.ref a from r);rfl
 | ty n=>cases (show u=Value.type n from r);rfl
section
variable{h:Heap}{dx:Addr}{fs fs':List (Str×V)}
def pQ(b:tG P w H h)(e:H a=some (.ins C dx fs)):∃mA,M4 h a dx C mA/\(∀f,nM (fs.lookup f) (mA f))/\PySem.Within mA (fs.map (·.1))/\fs.length<=1000/\H dx=some (.own a):=by obtain⟨d,z,ne,c,mA,n,r,q⟩:=(show dU P w H h a (.ins C dx fs) from b a _ e);exact⟨mA,⟨c,n,ne⟩,r,q,z,d⟩
end
structure Cls(K:zzy)(C:Addr):Prop where
 pg:W.plainGet K C Str.empty=true
 hd:W.hasDictIn K C=true
 po:W.plainOver K C=true
 sa:W.findIn K (.ref C) "__setattr__" = some (some (.builtin "object.__setattr__"))
def Cls.get(c:Cls K C)(f:Str):W.plainGet K C f=true:=c.pg
def eG(K:zzy)(C:Addr)(f:Str):Prop:=W.findIn K (.ref C) f=some none
def eG.taker{f:Str}(n:eG K C f):W.takerIn K C f=some none:=by unfold W.takerIn;rw[show W.findIn K (.ref C) f=some none from n];rfl
structure Meth(K:zzy)(C:Addr)(m:Str)(f:Addr):Prop where
 at_:W.findIn K (.ref C) m=some (some (.ref f))
 fn:W.isFn K (.ref f)=true
 kp:W.keepIn K (.ref f)=true
section
variable{dx:Addr}{fs:List (Str×V)}{f:Str}
def BX{b:Bool}(I:Inv X pins σ H s)(e:H a=some (.ins C dx fs))(c:Cls X.K C)(n:eG X.K C f)(l:fs.lookup f=some v)(h:∀u s',Inv X pins σ H s'->RelV v u->Q u s'):wpAny (model X.prog X.w) A (getAttr (.ref a) f b) Q E s:=by obtain⟨g,O,r,_,_,_⟩:=pQ I.hok e;obtain⟨u,i,d⟩:=nM.some_of (v:=v) (o:=g f) (by rw[←l];exact r f);exact get_map I.oO O (c.get f) c.hd n i (Eu d) (h u _ (I.tok _) d)
def uD{m:Str}{g:Addr}{pl:Sem Bool}{Q:Value×List Value->Shared->Prop}(I:Inv X pins σ H s)(e:H a=some (.ins C dx fs))(c:Cls X.K C)(k:Meth X.K C m g)(l:fs.lookup m=none)(h:Q (.ref g,[.ref a]) s):wpAny (model X.prog X.w) A (getMethod (.ref a) m pl) Q E s:=by obtain⟨b,O,r,_,_,_⟩:=pQ I.hok e;have d:b m=none:=nM.none_of (by rw[←l];exact r m);exact Wj I.oO O (c.get m) k.at_ k.fn d h
def Ak{Q:zzu}(I:Inv X pins σ H s)(e:H a=some (.ins C dx fs))(c:Cls X.K C)(n:eG X.K C f)(F:fs.length<1000)(m:RelV y u)(h:∀s',Inv X pins σ (upd H a (.ins C dx (cM f y fs))) s'->Q () s'):wpAny (model X.prog X.w) A (setAttr (.ref a) f u) Q E s:=by
 obtain⟨j,O,r,i,_,k⟩:=pQ I.hok e;have p:(fs.map (·.1)).length<=sizeLine:=by rw[aak,sizeLine_eq];lia
 refine Yn I.oO O c.sa c.po n.taker c.hd i p λB d l=>h _ ?_;have v:∃o,B.get? dx=some o:=let ⟨o,_,_,D,_⟩:=d.ns;⟨o,D⟩
 refine I.write (x:=a) (e:=dx) (by rw[e];exact True.intro) (.inr k) (λb q w z=>(l.2 b w).trans z) v ?_;refine⟨by rw[aF O.ne];exact k,?_,O.ne,d.obj,_,d.ns,λg=>?_,λg t=>?_⟩
 .have:=yr f y fs;lia
 .show nM ((cM f y fs).lookup g) (if g=f then some u else j g)
  rw[yp]
  by_cases q:g=f
  .rw[adq q,adq q];exact m
  .rw[adp q,adp q];exact r g
 .by_cases q:g=f
  .rw[q];exact(xK f y fs).1
  .refine(xK f y fs).2 g (i g λz=>t ?_)
   show (if g=f then some u else j g)=none;rw[adp q];exact z
def Inv.made(I:Inv X pins σ H s):Inv X pins σ (upd (upd H s.heap.objs.size (.own (s.heap.objs.size+1))) (s.heap.objs.size+1) (.ins C s.heap.objs.size []))
 {s with heap:=(s.heap.push W.emptyDict).push (W.instObj C s.heap.objs.size)}:=by
 have c:(s.heap.push W.emptyDict).get? s.heap.objs.size=some W.emptyDict:=aar s.heap rfl
 have h:((s.heap.push W.emptyDict).push (W.instObj C s.heap.objs.size)).get? (s.heap.objs.size+1)=some (W.instObj C s.heap.objs.size):=by have:=aar (s.heap.push W.emptyDict) (o:=W.instObj C s.heap.objs.size) rfl;rwa [Heap.size_push] at this
 have g:(s.heap.push W.emptyDict).Ns s.heap.objs.size (λ_=>none):=⟨W.emptyDict, #[],_,c,Z,(λe f=>adt f MZ),λ_=>rfl⟩;have i:=I.laid (a:=s.heap.objs.size) (o:= .own (s.heap.objs.size+1)) (h':=s.heap.push W.emptyDict) (t':=s.toks) (λb u q=>aaq _ q) (aav _) ⟨_,c⟩;refine i.laid (a:=s.heap.objs.size+1) (o:= .ins C s.heap.objs.size []) (t':=s.toks) (λb u q=>aaq _ q) (Nat.le_of_eq (Heap.size_push _ _)) ?_;have ne:s.heap.objs.size≠s.heap.objs.size+1:=aa7 (Nat.lt_succ_self _);refine⟨by rw[aF ne,ao],Nat.zero_le _,ne,h,λ_=>none,(Heap.Ns1.of_empty g).at λo q=>aaq _ q,λ_=>True.intro,λy d=>adt rfl d⟩
def Qe{prog:Program}{f:Str}(b:attributeBase e f env (eval e env)=eval e env)(h:wpAny (model prog w) A (eval e env) (λo a=>wpAny (model prog w) A (getAttr o f true) Q E a) E s):wpAny (model prog w) A (eval (.Attribute e f pos) env) Q E s:=Attribute_any_ h (by rw[arm_eval_Attribute,b])
end
inductive Ub(K:zzy)(f:Str)(Q:VK)(x:V)(H1:Hp):Prop|m:∀a C dx fs v,x=.ref a->H1 a=some (.ins C dx fs)->Cls K C->eG K C f->fs.lookup f=some v->Q v H1->Ub K f Q x H1
def ad'(K:zzy)(a:TE)(f:Str):TE:=λσ H Q=>a σ H λx H1=>Ub K f Q x H1
inductive Us(K:zzy)(f:Str)(D:Ends)(σ:St)(y x:V)(H2:Hp):Prop|m:∀a C dx fs,x=.ref a->H2 a=some (.ins C dx fs)->Cls K C->eG K C f->fs.length<1000->D.nx σ (upd H2 a (.ins C dx (cM f y fs)))->Us K f D σ y x H2
def aei(K:zzy)(b a:TE)(f:Str):TS:=λD σ H=>a σ H λy H1=>b σ H1 λx H2=>Us K f D σ y x H2
def afL(X:Cx)(op:Operator)(a:V->V->Hp->VK->Prop):Prop:=∀(pins:zzw)(s:Shared)(σ:St)(H:Hp)(x y:V)(u v:Value)(Q:VK),Inv X pins σ H s->RelV x u->RelV y v->a x y H Q->wpAny (model X.prog X.w) X.A (inplaceOp op u v) (EP X pins σ Q) X.xe s
def Oe(K:zzy)(h g:TE)(i:V->V->Hp->VK->Prop)(f:Str):TS:=λD σ H=>h σ H λx H1=>∃a C dx d v,x=.ref a/\H1 a=some (.ins C dx d)/\Cls K C/\eG K C f/\d.lookup f=some v /\g σ H1 λy H2=>i v y H2 λz e=>∃c b,e a=some (.ins C c b)/\b.length<1000/\D.nx σ (upd e a (.ins C c (cM f z b)))
section
variable{o:Expr}{f:Str}
def abP(he:PE X e ta)(k:attributeBase e f X.env (eval e X.env)=eval e X.env):PE X (.Attribute e f pos) (ad' X.K ta f):=by intro b s d H Q I h;refine Qe k (dM (he b s d H _ I h) λu w j=>?_);obtain⟨x,H1,p,g,a,C,z,y,v,ex,m,c,n,l,q⟩:=j;subst ex;obtain rfl:u=Value.ref a:=g;exact BX p m c n l λr t o i=>⟨v,H1,o,i,q⟩
def abI(m:PE X o ta)(k:PE X value tv)(hs:swapsWith value (some (.Attribute o f pos')) pos.line X.env=pure false):PS X (.Assign [.Attribute o f pos'] value pos) (aei X.K ta tv f):=by intro b s d H D I h;refine plainObj_wpAny_Assign_Attribute (dM (k b s d H _ I h) λu e ⟨y,H1,v,g,q⟩=>dM (m b e d H1 _ v q) λj z ⟨x,H2,t,i,a,C,B,A,ex,p,c,n,l,q2⟩=>?_) hs;subst ex;obtain rfl:j=Value.ref a:=i;exact Ak t p c n l g λw r=>⟨d,_,r,q2⟩
theorem QJ(F:PE X o ta)(E:PE X value tv)(g:afL X op rd):PS X (.AugAssign (.Attribute o f tpos) op value pos) (Oe X.K ta tv rd f):=by intro b s d H D I h;refine wpAny_AugAssign_AttributeAny (dM (F b s d H _ I h) λA T e=>?_);obtain⟨x,H1,P,t,a,C,V,U,v,ex,J,c,n,l,q⟩:=e;subst ex;obtain rfl:A=Value.ref a:=t;refine BX P J c n l λu m O w=>dM (E b m d H1 _ O q) λj k ⟨y,H2,N,r,q3⟩=>dM (g b k d H2 v y u j _ N w r q3) λQ S e=>?_;obtain⟨z,W,M,p,K,G,i,B,q4⟩:=e;exact Ak M i c n B p λR L=>⟨d,_,L,q4⟩
end
section
variable{c:Value}{b:Bool}
inductive uI(K:zzy)(H:Hp):V->Value->Prop where
 | non:uI K H .non (.type "NoneType")
 | bl (x:Bool):uI K H (.bl x) (.type "bool")
 | int (i:Int):uI K H (.int i) (.type "int")
 | str (x:Str):uI K H (.str x) (.type "str")
 | flt (x:UInt64):uI K H (.flt x) (.type "float")
 | lst {a:Addr} {xs:List V} (e:H a=some (.lst xs)):uI K H (.ref a) (.type "list")
 | JG {a:Addr} {o:Obj} {xs:List V} (e:H a=some (.JG o (.lst xs))):uI K H (.ref a) (.type "list")
 | tup {a:Addr} {xs:List V} (e:H a=some (.tup xs)):uI K H (.ref a) (.type "tuple")
 | dK {a:Addr} {kvs:List (Key×V)} (e:H a=some (.dK kvs)):uI K H (.ref a) (.type "dict")
 | dT {a:Addr} {kvs:List (List Key×V)} (e:H a=some (.dT kvs)):uI K H (.ref a) (.type "dict")
 | ins {a C dx:Addr} {fs:List (Str×V)} (e:H a=some (.ins C dx fs)) (cl:Cls K C) (ha:W.findIn K (.ref C) "__class__" = some (some (.builtin "object.__class__")))
    (hn:W.specialIn K (.builtin "object.__class__") "__get__" = some (some (.builtin "getset_descriptor.__get__"))) (htk:W.takesIn K (.builtin "object.__class__")=some true)
    (hm:W.mroIn K C (.type "object")=some true):uI K H (.ref a) (.ref C)
theorem Rm{x:V}{t:Value}(I:Inv X pins σ H s)(d:RelV x u)(ty:uI X.K H x t)(e:W.kitOne X.K t c=some b)(h:∀tk,Q (.bool b) {s with toks:=tk}):
 wpAny (model X.prog X.w) A (call (.builtin "isinstance") [u,c]) Q E s:=by
 cases ty with
 | non=>cases (show u=Value.none from d);exact W.kia_one W.kitx_none I.oO True.intro e (λz=>nomatch z) h
 | bl y=>cases (show u=Value.bool y from d);exact W.kia_one W.kitx_bool I.oO True.intro e (λz=>nomatch z) h
 | int i=>obtain⟨t,q⟩:=(show ∃t,u=Value.int i t from d);cases q;exact W.kia_one W.kitx_int I.oO True.intro e (λz=>nomatch z) h
 | str y=>obtain⟨t,q⟩:=(show ∃t,u=Value.str y t from d);cases q;exact W.kia_one W.kitx_str I.oO True.intro e (λz=>nomatch z) h
 | flt y=>obtain⟨t,q⟩:=(show ∃t,u=Value.float y t from d);cases q;exact W.kia_one W.kitx_float I.oO True.intro e (λz=>nomatch z) h
 | @lst a k f=>
   cases (show u=Value.ref a from d);obtain⟨_,_,n,_,g⟩:=(show dU X.prog X.w H s.heap a (.lst k) from I.hok a _ f);exact W.kia_one W.kitx_list I.oO ⟨_,g,Z⟩ e (λz=>nomatch z) h
 | @JG a r k f=>
   cases (show u=Value.ref a from d);obtain⟨_,_,_,n,_,g⟩:=(show dU X.prog X.w H s.heap a (.JG r (.lst k)) from I.hok a _ f);exact W.kia_one W.kitx_list I.oO ⟨_,g,Z⟩ e (λz=>nomatch z) h
 | @tup a k f=>
   cases (show u=Value.ref a from d);obtain⟨_,_,_,p⟩:=(show dU X.prog X.w H s.heap a (.tup k) from I.hok a _ f);obtain⟨o,g,l,_⟩:=p;exact W.kia_one W.kitx_tuple I.oO ⟨o,g,l⟩ e (λz=>nomatch z) h
 | @dK a j f=>
   cases (show u=Value.ref a from d);obtain⟨_,_,G,_,p⟩:=(show dU X.prog X.w H s.heap a (.dK j) from I.hok a _ f);obtain⟨o,D,F,g,l,_⟩:=p;exact W.kia_one W.kitx_dict I.oO ⟨o,g,l.1⟩ e (λz=>nomatch z) h
 | @dT a j f=>
   cases (show u=Value.ref a from d);obtain⟨_,_,k,_,o,D,F,g,l,_⟩:=(show dU X.prog X.w H s.heap a (.dT j) from I.hok a _ f);exact W.kia_one W.kitx_dict I.oO ⟨o,g,l.1⟩ e (λz=>nomatch z) h
 | @ins a C N M f cl B v m w=>
   cases (show u=Value.ref a from d);obtain⟨L,O,_⟩:=pQ I.hok f;obtain⟨K,J,_⟩:=O.look;exact W.kia_one (W.kitx_own (cl.get _) cl.hd B v m w) I.oO J e (λz=>nomatch z) h
end
structure eU(k:Nat)(A:Around):Prop where
 hd:A.handled=none
 dp:A.depth+3*k+5<recursionLimit
 un:A.units+16*k+200<cLine
def eU.mono(r:eU k A)(h:j<=k):eU j A:=⟨r.hd,by have:=r.dp;lia,by have:=r.un;lia⟩
theorem eU.deeper{k:Nat}{A:Around}(r:eU (k+1) A)(env:Env):eU k (A.deeper env):=⟨r.hd,by have:=r.dp;show A.depth+1+3*k+5<_;lia,by have:=r.un;show A.units+3+16*k+200<_;lia⟩
theorem eU.in1{k:Nat}{A:Around}(r:eU (k+1) A):eU k A.in1:=⟨r.hd,by have:=r.dp;show A.depth+3*k+5<_;lia,by have:=r.un;show A.units+1+16*k+200<_;lia⟩
theorem Lp:(A.under (.builtin "type.__call__" ⟨.ref C::us,kw⟩)).depth=A.depth+1:=by first |rfl|simp[Around.under,Code.weight,Code.isCreation,Code.isGuard,Code.isCaller,Code.frames,Code.isFrame,guardIds]
theorem Ln:(A.under (.builtin "type.__call__" ⟨.ref C::us,kw⟩)).units=A.units+1:=by first |rfl|simp[Around.under,Code.cUnits,Code.frames,Code.isFrame]
def eU.make(r:eU (k+1) A)(C:Addr)(us:zzt)(kw:List (Str×Value)):eU k (A.under (.builtin "type.__call__" ⟨.ref C::us,kw⟩)):=⟨r.hd,by have:=r.dp;rw[Lp];lia,by have:=r.un;rw[Ln];lia⟩
theorem eU.depth{k:Nat}{A:Around}(r:eU k A):A.depth<recursionLimit:=by have:=r.dp;lia
theorem eU.units{k:Nat}{A:Around}(r:eU k A):A.units+64<cLine:=by have:=r.un;lia
def eU.aa9(r:eU k A):A.units<cLine:=by have:=r.un;lia
def wJ:TA:=λ_ H Q=>Q [] H
def jq(b:TE)(a:TA):TA:=λσ H Q=>b σ H λx H1=>a σ H1 λxs H2=>Q (x::xs) H2
section
variable{t:TA}
def au:PA X [] wJ:=λ_ _ _ _ H Q I h=>Calls.spliced_nil ⟨[],H,I,.nil,h⟩
def aj(k:PE X e te)(j:PA X es t)(hs:starEach (e::es) X.env=(false,eval e X.env)::starEach es X.env:=by rfl):PA X (e::es) (jq te t):=by intro pos a s b H Q I h;rw[hs];show wpAny _ _ (spliced ((false,eval e X.env)::backTo pos (starEach es X.env))) _ _ s;refine Calls.spliced_cons (dM (k a s b H _ I h) λu d i=>?_);obtain⟨x,H1,m,g,q1⟩:=i;exact dM (j pos a d b H1 _ m q1) λn o ⟨c,H2,l,f,q2⟩=>⟨x::c,H2,l,.cons g f,q2⟩
def abh(t:TA):TE:=λσ H Q=>t σ H λxs H1=>xs.length<=sizeLine /\ ∀p,H1 p=none->Q (.ref p) (upd H1 p (.tup xs))
def ahy(t:TA):TE:=λσ H Q=>t σ H λxs H1=>xs.length<=sizeLine /\ ∀p,H1 p=none->Q (.ref p) (upd H1 p (.lst xs))
def dI{i}(h:PA X es t):PE X (.Tuple es i pos) (abh t):=by intro a s f H Q I k;refine wpAny_Tuple_spliced (dM (h pos a s f H _ I k) λj c ⟨g,H1,d,r,z,q⟩=>⟨by rw[←r.length];exact z,?_⟩);have l:H1 c.heap.objs.size=none:=d.hok.fresh (aav _);refine⟨.ref c.heap.objs.size,upd H1 c.heap.objs.size (.tup g),d.laid (t':=c.toks) (λb u e=>aaq _ e) (aav _) ?_,Z,q _ l⟩;exact⟨z,j,r,⟨_,aar _ rfl,Z,_,Z⟩⟩
theorem cP(h:PA X es t):PE X (.List es pos) (ahy t):=by intro a s f H Q I j;refine wpAny_List_spliced (dM (h pos a s f H _ I j) λi c ⟨g,H1,d,r,z,q⟩=>⟨by rw[←r.length];exact z,?_⟩);have k:H1 c.heap.objs.size=none:=d.hok.fresh (aav _);refine⟨.ref c.heap.objs.size,upd H1 c.heap.objs.size (.lst g),d.laid (t':=c.toks) (λb u e=>aaq _ e) (aav _) ?_,Z,q _ k⟩;exact⟨z,i,0,r,aar _ rfl⟩
end
abbrev Sp:=List V->Hp->VK->XK->Prop
abbrev S5:=List Env->Hp->Shared->XK->Value->Shared->Prop
structure DN(P:Program)(w:World)(K:zzy)(mg:zzv)(base:Heap)(A:Around)(outer:List Env)(s:Shared)(H:Hp):Prop where
 frames:A.frames=some outer
 mod:Mod K mg base
 bs:∀b o,base.get? b=some o->s.heap.get? b=some o/\H b=none
 Mz:base.objs.size<=s.heap.objs.size
 qe:s.heap.FunFrames base outer
 SM:∀b∈frs outer,H b=none
 hok:tG P w H s.heap
 bare:AllBare s.gens
def CE(outer:List Env)(P:Program)(w:World)(H:Hp)(s:Shared)(Q:VK)(u:Value)(s':Shared):Prop:=∃v H',s'.os=s.os/\AllBare s'.gens/\Un (frs outer) [] H H' s.heap s'.heap/\tG P w H' s'.heap/\RelV v u/\Q v H'
def CR(CX:S5)(outer:List Env)(P:Program)(w:World)(H:Hp)(s:Shared)(Q:VK)(E:XK)(r:Result)(s':Shared):Prop:=
 match r with
 | .ok (.ret u)=>CE outer P w H s Q u s'
 | .ok _=>False
 | .error e=>CX outer H s E e s'
structure bN(P:Program)(w:World)(K:zzy)(mg:zzv)(base:Heap)(CX:S5)(k:Nat)(f:Addr)(fd:zzs)(ps:List Str)(sp:Sp):Prop where
 len:∀vs H Q E,sp vs H Q E->vs.length=ps.length
 run:∀(A:Around)(outer:List Env)(s:Shared)(H:Hp)(args:Args)(us:zzt)(vs:List V)(Q:VK)(E:XK),eU k A->DN P w K mg base A outer s H->BindsTo s fd args (ps.zip us)->Vals vs us->sp vs H Q E ->codeAny (model P w) A (.call (.ref f) args) (CR CX outer P w H s Q E) s
def DN.make{mg:zzv}(e:DN P w K mg base A outer s H)(C:Addr)(us:zzt)(kw:List (Str×Value)):
 DN P w K mg base (A.under (.builtin "type.__call__" ⟨.ref C::us,kw⟩)) outer s H:=⟨by first |exact e.frames|(simpa [Around.under,Code.envs,Code.isFrame,pushEnvs] using e.frames),e.mod,e.bs,e.Mz,e.qe,e.SM,e.hok,e.bare⟩
theorem DN.in1{P:Program}{w:World}{K:zzy}{mg:zzv}{base:Heap}{A:Around}{outer:List Env}{s:Shared}{H:Hp}(e:DN P w K mg base A outer s H):
 DN P w K mg base A.in1 outer s H:=⟨e.frames,e.mod,e.bs,e.Mz,e.qe,e.SM,e.hok,e.bare⟩
def Inv.env0(I:Inv X pins σ H s):DN X.prog X.w X.K X.mg X.base X.A X.stack s H:=⟨I.ok.frames,I.ok.mod,I.bs,adl I.ok.Mz I.sz,I.stack,I.FN,I.hok,I.bare⟩
def Inv.after{Q:VK}(I:Inv X pins σ H s)(h:CE X.stack X.prog X.w H s Q u s'):EP X pins σ Q u s':=by obtain⟨v,f,os,bare,un,c,r,q⟩:=h;obtain⟨e,g,d,t,a⟩:=s';obtain rfl:a=s.os:=os;exact⟨v,f,I.call (h':=e) (g':=g) (d':=d) (t':=t) (ch:=[]) un c bare (λb z=>adt z MZ),r,q⟩
def Iw(sp:Sp)(rm:List V)(E:XK)(t:TA):TE:=λσ H Q=>t σ H λvs H1=>sp (vs++rm) H1 Q E
inductive NZ(C:Addr)(m:Str)(sp:Sp)(rm:List V)(E:XK)(t:TA)(σ:St)(Q:VK)(x:V)(H1:Hp):Prop|m:∀a dx fs,x=.ref a->H1 a=some (.ins C dx fs)->fs.lookup m=none->(t σ H1 λvs H2=>sp (x::(vs++rm)) H2 Q E)->NZ C m sp rm E t σ Q x H1
def Iv(C:Addr)(m:Str)(sp:Sp)(rm:List V)(E:XK)(a:TE)(t:TA):TE:=λσ H Q=>a σ H λx H1=>NZ C m sp rm E t σ Q x H1
def aan(C:Addr)(sp:Sp)(rm:List V)(E:XK)(t:TA):TE:=λσ H Q=>t σ H λvs H1=>∀x dx,H1 x=none->H1 dx=none->dx≠x ->sp (.ref x::(vs++rm)) (upd (upd H1 dx (.own x)) x (.ins C dx [])) (λv H2=>v=.non/\Q (.ref x) H2) E
def Binds(K:zzy)(a:zzs)(ps:List Str)(ds:zzt):Prop:=∀(s:Shared)(us:zzt),K.In s.heap->(us++ds).length=ps.length->BindsTo s a ⟨us,[]⟩ (ps.zip (us++ds))
def Binds.all(h:∀us:List Value,us.length=ps.length->bindArgs fd ⟨us,[]⟩=pure (ps.zip us)):Binds K fd ps []:=λs us _ a=>by rw[List.append_nil] at a ⊢;exact .of_eq (h us a)
def Passes(CX:S5)(X:Cx)(E:XK):Prop:=∀(pins:zzw)(σ:St)(H:Hp)(s:Shared)(e:Value)(s':Shared),Inv X pins σ H s->CX X.stack H s E e s'->X.xe e s'
section
variable{CX:S5}{sp:Sp}{ds:zzt}{E:XK}{m:Str}{p:Pos}{o:Expr}{t:TA}
def Gr{Q:VK}(F:bN X.prog X.w X.K X.mg X.base CX k f fd ps sp)(g:eU k X.A)(l:Binds X.K fd ps ds)(j:Vals rm ds)(d:Passes CX X E)(I:Inv X pins σ H s)(r:Vals vs us)(h:sp (vs++rm) H Q E):wpAny (model X.prog X.w) X.A (call (.ref f) us) (EP X pins σ Q) X.xe s:=by
 have b:Vals (vs++rm) (us++ds):=r.append j;have i:(us++ds).length=ps.length:=by rw[←b.length];exact F.len _ _ _ _ h
 refine wpAny_call (codeAny_mono (F.run X.A X.stack s H ⟨us,[]⟩ (us++ds) (vs++rm) Q E g I.env0 (l s us I.oO i) b h) λr c a=>?_);cases r with
 | error e=>exact d pins σ H s e c I a
 | ok m=>
   cases m with
   | ret u=>exact I.after a
   | next=>exact False.elim a
   | brk=>exact False.elim a
   | cont=>exact False.elim a
def YT(F:bN X.prog X.w X.K X.mg X.base CX k f fd ps sp)(g:eU k X.A)(l:Gl X x)(i:X.mg x=some (.ref f))(j:W.keepIn X.K (.ref f)=true)(n:Binds X.K fd ps ds)(m:Vals rm ds)(d:Passes CX X E)(o:PA X (e::es) t)(hdb:(x==("__debug__" :Str))=false:=by decide)(he:starEach (e::es) X.env=(false,eval e X.env)::starEach es X.env:=by rfl)(hpl:(backTo pos (starEach es X.env)).any (·.1)=false:=by rfl):
 PE X (.Call (.Name x p) (e::es) [] pos) (Iw sp rm E t):=by
 intro a s c H Q I h;refine wpAny_Call_Name_kw (pN I l i ?_ hdb);refine W.callWith_K (h₀:=X.base) I.ok.mod.V7 j (dM (o pos a s c H _ I h) λv w ⟨u,H1,b,r,q⟩=>⟨b.oO,?_⟩) he hpl;exact Gr F g n m d b r q
def YQ{pl:Sem Bool}(he:PE X o ta)(c:Cls X.K C)(j:Meth X.K C m f)(F:bN X.prog X.w X.K X.mg X.base CX k f fd ps sp)(A:eU k X.A)(D:Binds X.K fd ps ds)(B:Vals rm ds)(y:Passes CX X E)(G:PA X (e::es) t)(d:starEach (e::es) X.env=(false,eval e X.env)::starEach es X.env:=by rfl)(hpl:(backTo pos (starEach es X.env)).any (·.1)=false:=by rfl)(z:eval (.Call (.Attribute o m apos) (e::es) [] pos) X.env=(do
   let i ←eval o X.env
   standAt apos.atName
   let (f,first) ←holding [i] (getMethod i m pl)
   callWith pos f first (backTo pos (starEach (e::es) X.env)) (backToKw pos (keywordEach [] X.env))):=by rfl):
 PE X (.Call (.Attribute o m apos) (e::es) [] pos) (Iv C m sp rm E ta t):=by
 intro b s g H Q I h;refine W.methodCall_KW (pl:=pl) (dM (he b s g H _ I h) λu v ⟨x,H1,p,w,a,M,L,ex,J,l,q⟩=>?_) z;subst ex;obtain rfl:u=Value.ref a:=w;refine uD p J c j l ?_;refine W.callWith_K (first:=[.ref a]) (h₀:=X.base) I.ok.mod.V7 j.kp (dM (G pos b v g H1 _ p q) λus K ⟨vs,H2,n,r,q2⟩=>⟨n.oO,?_⟩) d hpl;exact Gr (us:= .ref a::us) (vs:= .ref a::vs) F A D B y n (.cons rfl r) q2
def Ve{pl:Sem Bool}(he:PE X o ta)(c:Cls X.K C)(g:Meth X.K C m f)(F:bN X.prog X.w X.K X.mg X.base CX k f fd ps sp)(r:eU k X.A)(v:Binds X.K fd ps ds)(t:Vals rm ds)(n:Passes CX X E)(p:eval (.Call (.Attribute o m apos) [] [] pos) X.env=(do
   let e ←eval o X.env
   standAt apos.atName
   let (f,first) ←holding [e] (getMethod e m pl)
   callWith pos f first (backTo pos (starEach [] X.env)) (backToKw pos (keywordEach [] X.env))):=by rfl):
 PE X (.Call (.Attribute o m apos) [] [] pos) (Iv C m sp rm E ta wJ):=by
 intro b s i H Q I h;refine W.methodCall_KW (pl:=pl) (dM (he b s i H _ I h) λu y ⟨x,H1,d,j,a,A,z,ex,w,l,q⟩=>?_) p;subst ex;obtain rfl:u=Value.ref a:=j;refine uD d w c g l ?_;exact W.callWith_K0 (first:=[.ref a]) d.oO g.kp (Gr (us:=[.ref a]) (vs:=[.ref a]) F r v t n d (.cons rfl .nil) q)
structure Mk(K:zzy)(C f:Addr):Prop where
 makes:W.makesIn K C=true
 init:W.findIn K (.ref C) "__init__" = some (some (.ref f))
 fn:W.isFn K (.ref f)=true
 kp:W.keepIn K (.ref C)=true
def Ut{Q:VK}(M:Mk X.K C f)(F:bN X.prog X.w X.K X.mg X.base CX k f fd ps sp)(l:eU (k+1) X.A)(o:Binds X.K fd ps ds)(n:Vals rm ds)(j:Passes CX X E)(I:Inv X pins σ H s)(r:Vals vs us)(h:∀x dx,H x=none->H dx=none->dx≠x->sp (.ref x::(vs++rm)) (upd (upd H dx (.own x)) x (.ins C dx [])) (λv H2=>v=.non/\Q (.ref x) H2) E):
 wpAny (model X.prog X.w) X.A (call (.ref C) us) (EP X pins σ Q) X.xe s:=by
 have d:=h (s.heap.objs.size+1) s.heap.objs.size (I.hok.fresh (Nat.le_succ _)) (I.hok.fresh (aav _)) (aa7 (Nat.lt_succ_self _));have b:=Inv.made (C:=C) I;have c:Vals (V.ref (s.heap.objs.size+1)::(vs++rm)) (Value.ref (s.heap.objs.size+1)::(us++ds)):= .cons rfl (r.append n)
 have m:(Value.ref (s.heap.objs.size+1)::us++ds).length=ps.length:=by have e:=c.length;rw[F.len _ _ _ _ d] at e;exact e.symm
 refine wpAny_call (V1 (f:=f) I.oO M.makes M.init (beq_iff_eq.mp M.fn) (codeAny_mono (F.run _ X.stack _ _ ⟨Value.ref (s.heap.objs.size+1)::us,[]⟩ (Value.ref (s.heap.objs.size+1)::(us++ds)) _ _ E (l.make C us [])
  (b.env0.make C us []) (o _ (Value.ref (s.heap.objs.size+1)::us) b.oO m) c d) λr g a=>?_))
 cases r with
 | error e=>exact j pins σ _ _ e g b a
 | ok p=>
   cases p with
   | ret u=>
     obtain⟨v,t,q,i,ev,q3⟩:=b.after a;subst ev;exact⟨i,⟨V.ref (s.heap.objs.size+1),t,q,Z,q3⟩⟩
   | next=>exact False.elim a
   | brk=>exact False.elim a
   | cont=>exact False.elim a
def YS(M:Mk X.K C f)(F:bN X.prog X.w X.K X.mg X.base CX k f fd ps sp)(g:eU (k+1) X.A)(j:Gl X x)(i:X.mg x=some (.ref C))(m:Binds X.K fd ps ds)(l:Vals rm ds)(d:Passes CX X E)(n:PA X (e::es) t)(hdb:(x==("__debug__" :Str))=false:=by decide)(he:starEach (e::es) X.env=(false,eval e X.env)::starEach es X.env:=by rfl)(hpl:(backTo pos (starEach es X.env)).any (·.1)=false:=by rfl):
 PE X (.Call (.Name x p) (e::es) [] pos) (aan C sp rm E t):=by
 intro a s c H Q I h;refine wpAny_Call_Name_kw (pN I j i ?_ hdb);refine W.callWith_K (h₀:=X.base) I.ok.mod.V7 M.kp (dM (n pos a s c H _ I h) λu v ⟨o,H1,b,r,q⟩=>⟨b.oO,?_⟩) he hpl;exact Ut M F g m l d b r q
end
section
variable{CX:S5}{ks:List Str}{sp:Sp}{E:XK}{m:Str}{p kpos:Pos}{o:Expr}{kws:List Keyword}{t tk:TA}
variable{g:List Value->List Value->List Value}
end
structure aY(N P:List Str)(sc:Scope):Prop where
 kind:sc.kind=.function:=by rfl
 co:sc.isCoroutine=false:=by rfl
 gen:sc.isGenerator=false:=by rfl
 nd:N.Nodup:=by decide +kernel
 pre:N.take P.length=P:=by rfl
 par:∀x∈P,sc.names.lookup x=some .local\/sc.names.lookup x=some .cell:=by decide +kernel
 ace:∀y∈sc.names,y.2 ≠ .free:=by decide +kernel
theorem Fe{kindOf:Str->Option NameKind}{x:Str}:∀{binds:List (Str×Value)}{m:zzv},(∀v,(x,v)∉binds)->bindL kindOf binds m x=m x
 | [],_,_=>rfl
 | (n,v)::r,m,h=>by
   unfold bindL;rw[Fe λw hw=>h w (abz _ hw)];split
   .have:x≠n:=by rintro rfl;exact h v List.mem_cons_self
    simp[this]
   .rfl
theorem Fi{kindOf:Str->Option NameKind}{x:Str}:∀{binds:List (Str×Value)}{m:zzv},(∀v,(x,v)∉binds)->bindC kindOf binds m x=m x
 | [],_,_=>rfl
 | (n,v)::r,m,h=>by
   unfold bindC;rw[Fi λw hw=>h w (abz _ hw)];split
   .rfl
   .have:x≠n:=by rintro rfl;exact h v List.mem_cons_self
    simp[this]
theorem Fg{kindOf:Str->Option NameKind}{x:Str}{v:Value}:∀{P:List Str}{vs:zzt}{i:Nat}{m:zzv},P.Nodup->P[i]?=some x->vs[i]?=some v->kindOf x=some .local ->bindL kindOf (P.zip vs) m x=some v
 | [],_,_,_,_,h,_,_=>by simp at h
 | _::_,[],_,_,_,_,h,_=>by simp at h
 | p::P,w::vs,0,m,b,h1,a,c=>by simp at h1 a;subst h1;subst a;show bindL kindOf ((p,w)::P.zip vs) m p=_;unfold bindL;rw[Fe λv d=>(List.nodup_cons.mp b).1 (List.of_mem_zip d).1,adq c];simp
 | p::P,w::vs,i+1,m,b,h1,a,c=>by show bindL kindOf ((p,w)::P.zip vs) m x=_;unfold bindL;exact Fg (i:=i) (List.nodup_cons.mp b).2 (by simpa using h1) (by simpa using a) c
theorem Fj{kindOf:Str->Option NameKind}{x:Str}{v:Value}:∀{P:List Str}{vs:zzt}{i:Nat}{m:zzv},P.Nodup->P[i]?=some x->vs[i]?=some v->kindOf x≠some .local ->bindC kindOf (P.zip vs) m x=some v
 | [],_,_,_,_,h,_,_=>by simp at h
 | _::_,[],_,_,_,_,h,_=>by simp at h
 | p::P,w::vs,0,m,b,h1,a,c=>by simp at h1 a;subst h1;subst a;show bindC kindOf ((p,w)::P.zip vs) m p=_;unfold bindC;rw[Fi λv d=>(List.nodup_cons.mp b).1 (List.of_mem_zip d).1,adp c];simp
 | p::P,w::vs,i+1,m,b,h1,a,c=>by show bindC kindOf ((p,w)::P.zip vs) m x=_;unfold bindC;exact Fj (i:=i) (List.nodup_cons.mp b).2 (by simpa using h1) (by simpa using a) c
def start(N:List Str)(vs:List V):St:=vs.map some++List.replicate (N.length-vs.length) none
def qg(CX:S5)(P:Program)(w:World)(K:zzy)(mg:zzv)(base:Heap)(N:List Str)(b:Str)(a:Scope)(f:Addr)(cd:Value)(A:Around)(outer:List Env)(s:Shared)(H:Hp)(E:XK):Cx where
 prog:=P
 w:=w
 K:=K
 mg:=mg
 base:=base
 A:=A.deeper (envOfC b a s.heap.objs.size f cd)
 N:=N
 s₀:=s
 H₀:=H
 env:=envOfC b a s.heap.objs.size f cd
 outer:=outer
 stack:=envOfC b a s.heap.objs.size f cd::outer
 ex:=[]
 calm:=true
 fn:=λ_=>true
 pn:=[]
 xe:=λe s'=>wpAny (model P w) (A.deeper (envOfC b a s.heap.objs.size f cd)) (leaving (envOfC b a s.heap.objs.size f cd) e) (λ_ c=>CX outer H s E e c) (λd c=>CX outer H s E d c) s'
def JX{a:Scope}(h:a.names.lookup x=some .cell):∃c,(cellsFrom n a.names []).lookup x=some c:=by have q:=W.cellsFrom_some a.names n [] (.inl h);exact Option.isSome_iff_exists.mp q
theorem Ro{CX:S5}{mg:zzv}{d:Scope}{D:Shared}{E:XK}(S:aY N ps d)(L:A.handled=none)(j:DN P w K mg base A outer s H)(Q:vs.length=ps.length)(r:Vals vs us)(x:InCallC s s.heap.objs.size (bindL (envOfC qual d s.heap.objs.size f cd).kindOf (ps.zip us) λ_=>none) (cellsFrom (s.heap.objs.size+1) d.names []) (bindC (envOfC qual d s.heap.objs.size f cd).kindOf (ps.zip us) λ_=>none) D):
 Inv (qg CX P w K mg base N qual d f cd A outer s H E) [] (start N vs) H D:=by
 have J:ps.length<=N.length:=by have:=congrArg List.length S.pre;rw[acH] at this;lia
 obtain⟨C,O,rfl,G⟩:=x.done;have l:∀b:Addr,b∉(qg CX P w K mg base N qual d f cd A outer s H E).ex:=λb z=>adt (show b∈([]:List Addr) from z) MZ
 refine⟨⟨j.mod,S.kind,Z,Z,aav _,λy z c C g=>?_,λy m=>?_,λy c _ h=>?_,λ_=>L,Around.frames_deeper j.frames,.inr ⟨Z,Z⟩,λb z=>adt z (l b),j.bs,j.Mz,λb _ _=>l b,λb z=>adt z (l b),j.qe,j.SM⟩,
  Z,j.bare,Un.kept G,⟨_,x.toInCall.ns,λi y v C g R=>?_⟩,λy c h=>⟨_,x.cell y c h⟩,j.hok.fresh (aav _),λy c h=>?_,λp t=>adt (show p∈([]:zzw) from t) MZ,j.hok.kept G,?_⟩
 .exact name_of_addr x.apart (PySem.mem_of_lookup C) (PySem.mem_of_lookup g)
 .have m:d.names.lookup y=some .cell\/d.names.lookup y=some .free:=m
  rcases m with m|m
  .exact JX m
  .exact adt rfl (S.ace _ (PySem.mem_of_lookup m))
 .exact adn (x.above y c (PySem.mem_of_lookup h))
 .have B:i<vs.length:=by
   unfold start at g
   by_cases B:i<vs.length
   .exact B
   .rw[aa5 (by simpa using B)] at g
    rw[List.getElem?_replicate] at g;split at g<;>cases g
  have M:vs[i]?=some v:=by
   unfold start at g;rw[aa6 (by simpa using B),aap] at g;cases e:vs[i]? with
   | none=>rw[e] at g;cases g
   | some a=>rw[e] at g;cases g;rfl
  obtain⟨u,F,I⟩:=r.get M
  have t:ps[i]?=some y:=by rw[←S.pre,List.getElem?_take_of_lt LZ];exact C
  have o:ps.Nodup:=by rw[←S.pre];exact S.nd.sublist (List.take_sublist _ _)
  refine⟨u,I,?_⟩;rcases S.par y (aaN t) with k|k
  .exact .inl ⟨k,Fg o t F k⟩
  .obtain⟨c,e⟩:=JX (n:=s.heap.objs.size+1) k
   refine .inr ⟨.inl k,c,e,?_⟩;have q:=x.cell y c e;rw[Fj o t F (by show d.names.lookup y≠_;rw[k];decide)] at q;exact q
 .exact j.hok.fresh (adn (x.above y c (PySem.mem_of_lookup h)))
 .unfold start
  show _=N.length;rw[aa1,aak,List.length_replicate];lia
theorem Wq{CX:S5}{mg:zzv}{params:Arguments}{a:Scope}{D kV:Value}{sp:Sp}(G:K.lookup f=some ⟨oc,od,.func (W.fnOf name qual params body a D kV doc pm an cdv ct),osl⟩)(B:W.codeIn K cdv qual=true)(S:aY N ps a)(len:∀vs H Q E,sp vs H Q E->vs.length=ps.length)(g:∀(A:Around)(outer:List Env)(s:Shared)(H:Hp)(vs:List V)(Q:VK)(E:XK),eU k (A.deeper (envOfC qual a s.heap.objs.size f cdv))->sp vs H Q E ->∃t,Ko (qg CX P w K mg base N qual a f cdv A outer s H E) body t/\t {nx:=λ_ H'=>Q .non H',rt:=Q} (start N vs) H):
 bN P w K mg base CX (k+1) f (W.fnOf name qual params body a D kV doc pm an cdv ct) ps sp:=by
 refine⟨len,λA outer s H args F vs Q E z l U r i=>?_⟩;have R:=len _ _ _ _ i;have KX:K.In s.heap:=l.mod.V7.keeps λb o e=>(l.bs b o e).1;have lim:s.heap.NoLimit:=l.mod.nolimit.keeps λb o e=>(l.bs b o e).1
 have d:∀y∈ps.zip F,a.names.lookup y.1=some .local\/(a.names.lookup y.1=some .cell/\((cellsFrom (s.heap.objs.size+1) a.names []).lookup y.1).isSome=true):=λ⟨n,v⟩ L=>by
  rcases S.par n (List.of_mem_zip L).1 with q|q
  .exact .inl q
  .exact .inr ⟨q,W.cellsFrom_some _ _ _ (.inl q)⟩
 refine codeAny_call_function z.depth (KX _ _ G) rfl S.co S.gen rfl (W.codeRec_of KX B) (U _ _ _ _ ?_);refine wpAny_newFunctionEnv_cells S.kind d λenv T C x=>?_;subst T;refine⟨lim.keeps x.toInCall.keep,codeAny_func ?_⟩;obtain⟨t,M,O⟩:=g A outer s H vs Q E (z.deeper _) i;have I:Inv (qg CX P w K mg base N qual a f cdv A outer s H E) [] (start N vs) H C:=Ro S z.hd l R r x;refine wpAny_mono (M [] C (start N vs) H _ I O) (λX m h=>?_) λe m h=>h
 have j:∀{c:St}{H':Hp}{v:V}{u:Value},Inv (qg CX P w K mg base N qual a f cdv A outer s H E) [] c H' m->RelV v u->Q v H'->CE outer P w H s Q u m:=
  fun {c H' v u} J p q=>⟨v,H',J.os,J.bare,J.base,J.hok,p,q⟩
 cases X with
 | ret u=>
   obtain⟨v,c,H',J,p,q⟩:=h;exact j J p q
 | next=>
   obtain⟨c,H',J,q⟩:=h;exact j (v:=V.non) (u:=Value.none) J rfl q
 | brk=>
   obtain⟨_,_,_,q⟩:=h;exact False.elim q
 | cont=>
   obtain⟨_,_,_,q⟩:=h;exact False.elim q
section
variable{p:Pos}{t:TA}{id:String}{r:List V->Hp->VK->Prop}
def tCB(r:List V->Hp->VK->Prop)(t:TA):TE:=λσ H Q=>t σ H λvs H1=>r vs H1 Q
def aU(m:jm X (.builtin id) r)(l:Gl X x)(k:X.mg x=none)(i:bootBuiltins x=some (.builtin id))(n:PA X (e::es) t)(j:x ≠ "__name__" :=by decide)(hdb:(x==("__debug__" :Str))=false:=by decide)(he:starEach (e::es) X.env=(false,eval e X.env)::starEach es X.env:=by rfl)(hpl:(backTo pos (starEach es X.env)).any (·.1)=false:=by rfl):PE X (.Call (.Name x p) (e::es) [] pos) (tCB r t):=by intro a s b H Q I h;refine wpAny_Call_Name_kw (pO I l k i ?_ j hdb);exact PyProof.Rows.callWith_builtin1 (dM (n pos a s b H _ I h) λd f ⟨c,H1,o,g,q1⟩=>m a f b H1 c d Q o g q1) he hpl
def dh(m:jm X (.type T) r)(l:Gl X x)(k:X.mg x=none)(i:bootBuiltins x=some (.type T))(n:PA X (e::es) t)(j:x ≠ "__name__" :=by decide)(hdb:(x==("__debug__" :Str))=false:=by decide)(he:starEach (e::es) X.env=(false,eval e X.env)::starEach es X.env:=by rfl)(hpl:(backTo pos (starEach es X.env)).any (·.1)=false:=by rfl):PE X (.Call (.Name x p) (e::es) [] pos) (tCB r t):=by intro a s b H Q I h;refine wpAny_Call_Name_kw (pO I l k i ?_ j hdb);exact PyProof.Rows.callWith_type1 (dM (n pos a s b H _ I h) λd f ⟨c,H1,o,g,q1⟩=>m a f b H1 c d Q o g q1) he hpl
end
end L2
variable{g:L2.TG}{wi:L2.TI}{CX:L2.S5}{sp:L2.Sp}
namespace HT
open PySem PyProof.Rows
def lexLt:List Int->List Int->Bool
 | [],[]=>false
 | [],_::_=>true
 | _::_,[]=>false
 | x::xs,y::ys=>if x=y then lexLt xs ys else decide (x<y)
def pL(x y:Int)(xs ys:List Int):lexLt (x::xs) (y::ys)=if x=y then lexLt xs ys else decide (x<y):=Z
def Dn:lexLt [] []=false:=Z
def BJ(y:Int)(ys:List Int):lexLt [] (y::ys)=true:=Z
def BK(x:Int)(xs:List Int):lexLt (x::xs) []=false:=Z
def Wz(A:Around)(s:Shared)(a:Int)(t:Tok)(c:Int)(u:Tok):∃e,SeqAt.EqAt A s (.int a t) (.int c u) e/\(e=true↔a=c):=⟨(a==c),SeqAt.EqAt.int_int a t c u,MZ⟩
def Ux(A:Around)(s:Shared)(a:Int)(t:Tok)(c:Int)(u:Tok)(prog:Program)(w:World)(E:zzx)(Q:zzx)(h:Q (.bool (decide (a<c))) s):
 wpAny (model prog w) A (richCompare .Lt (.int a t) (.int c u)) Q E s:=
 (PyProof.Rows.lt_int h:wpAny (model prog w) A (compareOp .Lt (.int a t) (.int c u)) Q E s)
section
open PySem.SeqAt
open PySem.AutoSeq1 (wpAny_loadPart')
open PySem.MeetsSeq PySem.MeetsSeq2 PySem.MeetsSeq3
theorem Df(l b:Addr)(items f:Array Value)(n O:Nat)(dd I:Option Addr)(N F:Array (Option Value))(ns ms:List Int)(hi:IntsAre items.toList ns)(M:IntsAre f.toList ms):
 Meets (Builtin.«tuple.__lt__» ⟨[.ref l,.ref b],[]⟩)
  (λ_ R s=>s.heap.get? l=some {cls:= .type "tuple",dict:=dd,data:= .seq items n,slots:=N}/\s.heap.get? b=some {cls:= .type "tuple",dict:=I,data:= .seq f O,slots:=F} /\R (.ok (.ret (.bool (lexLt ns ms)))) s):=
 .of_wp λprog w A R s h=>by
  obtain⟨E,g,d,D,os⟩:=s;obtain⟨P,S,h⟩:=h;have V:=AutoSeq1.sub_tuple_tuple;have U:items.size=ns.length:=by rw[←hi.length];simp
  have T:f.size=ms.length:=by rw[←M.length];simp
  wp_walk using wpAny_loadPart' P,wpAny_loadPart' S,wpAny_forIn_list _ (λrest b G=>b.1=none/\G=⟨E,g,d,D,os⟩ /\ ∃(C B:zzt) (j k:List Int),rest=C.zip B /\IntsAre C j/\IntsAre B k/\j.length+f.size=k.length+items.size/\R (.ok (.ret (.bool (lexLt j k)))) ⟨E,g,d,D,os⟩) _
  case turn=>
   rintro⟨y,x⟩ rest b G ⟨z,rfl,C,B,j,k,m,v,o,i,r⟩;cases v with
   | nil=>rw[List.zip_nil_left] at m;cases m
   | cons a t J=>
     cases o with
     | nil=>rw[List.zip_nil_right] at m;cases m
     | cons c u K=>
       rw[List.zip_cons_cons] at m;injection m with hyx hrest
       injection hyx with hy hx
       subst hy hx;rw[pL] at r;simp only[ac8] at i;obtain⟨e,Q,p⟩:=Wz A.in1 ⟨E,g,d,D,os⟩ a t c u;refine aaB (Q prog w _ _ ?_);cases e with
       | true=>
         rw[adq (p.mp rfl)] at r
         wp_walk
         exact⟨Z,Z,_,_,_,_,hrest,J,K,LZ,r⟩
       | false=>
         rw[adp (λq=>adt (p.mpr q) aaT)] at r;have H:=Ux A.in1 ⟨E,g,d,D,os⟩ a t c u prog w
         wp_walk using H
         exact⟨_,Z,by simpa using r⟩
  case fin=>
   rintro⟨X,W⟩ G ⟨z,rfl,C,B,j,k,m,v,o,i,r⟩;simp only at z;subst z
   have L:lexLt j k=decide (items.size<f.size):=by
    cases v with
    | nil=>
      cases o with
      | nil=>
        simp only[List.length_nil] at i;rw[Dn];exact(aaP LZ).symm
      | cons c u hw=>
        simp only[List.length_nil,ac8] at i;rw[BJ];exact(aaO LZ).symm
    | cons a t L=>
      cases o with
      | nil=>
        simp only[List.length_nil,ac8] at i;rw[BK];exact(aaP LZ).symm
      | cons c u hw=>
        rw[List.zip_cons_cons] at m;cases m
   rw[L] at r
   wp_walk
   exact⟨_,Z,by simpa [Builtin.Tuple.tupleCompareSizes] using r⟩
  case h=>
   exact⟨Z,Z,items.toList,f.toList,ns,ms,Z,hi,M,LZ,h⟩
end
section
variable{prog:Program}
def Lq{l:Addr}{a:Array Value}{ms:List Int}(q:IsTup s.heap l items)(t:IsTup s.heap b a)(hi:IntsAre items.toList ns)(r:IntsAre a.toList ms)(p:A.units<cLine)(h:Q (.bool (lexLt ns ms)) s):wpAny (model prog w) A (compareOp .Lt (.ref l) (.ref b)) Q E s:=by
 obtain⟨⟨cls,u,data,m⟩,g,j,n,i⟩:=id q;obtain⟨⟨k,f,data2,e⟩,c,d,o,hd2⟩:=id t;simp only at j i d hd2;subst j i d hd2
 exact richCompare_meets_room (op:= .Lt) ⟨_,g,Z⟩ ⟨_,c,Z⟩ F.slot_tuple_lt F.entry_tuple_lt (F.args_tuple_lt_2 _ _) (Df l b items a n o u f m e ns ms hi r)
  ⟨g,c,show Value.bool (lexLt ns ms)≠Value.notImplemented/\Q (.bool (lexLt ns ms)) s from ⟨(λx=>nomatch x),h⟩⟩ p
def Z4{t:Addr}{vs ws:zzt}(q:IsTup s.heap t vs.toArray)(r:IsTup s.heap b ws.toArray)(k:vs≠[])(v:ws=[]->Q (.ref t) s)(u:ws≠[]->Q (.ref s.heap.objs.size) {s with heap:=s.heap.push {cls:= .type "tuple",data:= .seq (vs++ws).toArray}})(h:vs.length+ws.length<=sizeLine):wpAny (model prog w) A (binaryOp .Add (.ref t) (.ref b)) Q E s:=by
 obtain⟨⟨cls,o,data,i⟩,g,m,n,l⟩:=id q;obtain⟨⟨p,f,data2,c⟩,a,d,j,hd2⟩:=id r;simp only at m l d hd2;subst m l d hd2;have e:vs.toArray++ws.toArray=(vs++ws).toArray:=by simp
 by_cases hw:ws=[]
 .exact concat_meets ⟨_,g,Z⟩ ⟨_,a,Z⟩ noFill_tuple_add seq_tuple_add F.slot_tuple_add F.entry_tuple_add (F.args_tuple_add_2 _ _)
   (tuple_addW1 t b vs.toArray ws.toArray n j o f i c (by simpa using k) (by simp[hw])) ⟨g,a,v hw⟩
 .refine concat_meets ⟨_,g,Z⟩ ⟨_,a,Z⟩ noFill_tuple_add seq_tuple_add F.slot_tuple_add F.entry_tuple_add (F.args_tuple_add_2 _ _)
   (tuple_addW2 t b vs.toArray ws.toArray n j o f i c (by simpa using k) (by simpa using hw) (by rw[aaX,aaX];exact h)) ⟨g,a,?_⟩
  rw[e];exact u hw
def jo(n d:Nat):Option Int->Nat
 | none=>d
 | some v=>if v<0 then (v+(n:Int)).toNat else min v.toNat n
def Bd(n d:Nat):jo n d none=d:=Z
def Gp(n d k:Nat):jo n d (some (k:Int))=min k n:=by show (if (k:Int)<0 then ((k:Int)+(n:Int)).toNat else min (k:Int).toNat n)=min k n;rw[adp LZ,abf]
def aby(n d:Nat)(b:d<=n)(o:Option Int):jo n d o<=n:=by
 cases o with
 | none=>exact b
 | some v=>
   show (if v<0 then (v+(n:Int)).toNat else min v.toNat n)<=n
   by_cases a:v<0
   .rw[adq a];lia
   .rw[adp a];exact Nat.min_le_right _ _
def P0(v:Int)(n d:Nat):(if v<0 then max (v+(n:Int)) 0 else min v (n:Int))=((jo n d (some v):Nat):Int):=by
 show (if v<0 then max (v+(n:Int)) 0 else min v (n:Int))=(((if v<0 then (v+(n:Int)).toNat else min v.toNat n):Nat):Int)
 by_cases a:v<0
 .simp only[adq a];lia
 .simp only[adp a];lia
def MN(lo hi:Option Int)(n:Nat):Builtin.Slice.sliceAdjust lo hi 1 (n:Int)=(((jo n 0 lo:Nat):Int),((jo n n hi:Nat):Int)):=by
 have a:¬((1:Int)<0):=by lia
 unfold Builtin.Slice.sliceAdjust;simp only[a,if_false];refine Prod.ext ?_ ?_
 .cases lo with
  | none=>rfl
  | some v=>exact P0 v n 0
 .cases hi with
  | none=>rfl
  | some v=>exact P0 v n n
def K_(i j:Nat):Builtin.Slice.slicePlaces (i:Int) (j:Int) 1=j-i:=by
 unfold Builtin.Slice.slicePlaces;have a:(1:Int)>0:=by lia
 simp only[a,if_true,Int.ediv_one];split<;>lia
def Ai{v:Value}{o:Option Int}{Q:Option Int->Shared->Prop}(p:IsPart v o)(h:Q o s):wpAny (model prog w) A (Builtin.Slice.slicePartIndex v) Q E s:=by
 cases p with
 | none=>exact slicePart_none h
 | int i t=>exact slicePart_int h
theorem wO{lo hi:Option Int}{Q:Int×Int×Nat->Shared->Prop}(hs:s.heap.IsSliceOf sl vl vu .none)(pl:IsPart vl lo)(pu:IsPart vu hi)(h:Q (((jo n 0 lo:Nat):Int),1,jo n n hi-jo n 0 lo) s):wpAny (model prog w) A (Builtin.Slice.sliceApplied (.ref sl) (pure (n:Int))) Q E s:=by obtain⟨os,a,c,b⟩:=id hs;unfold Builtin.Slice.sliceApplied Builtin.Slice.sliceFields;refine aaB (aaB (wpAny_field a b (x:=vl) rfl (aaB (wpAny_field a b (x:=vu) rfl (aaB (wpAny_field a b (x:= .none) rfl (aaD ?_)))))));refine aaB (slicePart_none ?_);show wpAny _ _ (if ((1:Int)==0)=true then _ else _) _ _ s;rw[adp DZ];refine aaB (Ai pl (aaB (Ai pu (aaB (aaD ?_)))));show wpAny _ _ (match Builtin.Slice.sliceAdjust lo hi 1 (n:Int) with |(lo,hi)=>pure (lo,(1:Int),Builtin.Slice.slicePlaces lo hi 1)) _ _ s;rw[MN lo hi n];show wpAny _ _ (pure (((jo n 0 lo:Nat):Int),(1:Int),Builtin.Slice.slicePlaces ((jo n 0 lo:Nat):Int) ((jo n n hi:Nat):Int) 1)) _ _ s;rw[K_];exact aaD h
def Va(xs:Array Value)(i k:Nat):((List.range k).filterMap λ(m:Nat)=>xs[((i:Int)+(m:Int)*1).toNat]?).toArray=((xs.toList.drop i).take k).toArray:=by
 have e:(λ(m:Nat)=>xs[((i:Int)+(m:Int)*1).toNat]?)=λm=>xs[i+m]? :=by
  funext m;have:((i:Int)+(m:Int)*1).toNat=i+m:=by lia
  rw[this]
 rw[e];have:=pick_run xs i k;rw[List.filterMap_map] at this;have a:((λx=>xs[x]?)∘λx=>i+x)=λm=>xs[i+m]? :=Z;rw[a] at this;rw[this]
theorem vL{t:Addr}{lo hi:Option Int}(a:IsTup s.heap t items)(hs:s.heap.IsSliceOf sl vl vu .none)(pl:IsPart vl lo)(pu:IsPart vu hi)(hw:¬(jo items.size 0 lo=0/\jo items.size items.size hi=items.size))(h:Q (.ref s.heap.objs.size) {s with heap:=s.heap.push {cls:= .type "tuple",data:= .seq ((items.toList.drop (jo items.size 0 lo)).take (jo items.size items.size hi-jo items.size 0 lo)).toArray}})(g:items.size<=sizeLine):wpAny (model prog w) A (getItem (.ref t) (.ref sl)) Q E s:=by
 have b:sizeOk (.seq ((items.toList.drop (jo items.size 0 lo)).take (jo items.size items.size hi-jo items.size 0 lo)).toArray):=by show ((items.toList.drop (jo items.size 0 lo)).take (jo items.size items.size hi-jo items.size 0 lo)).toArray.size<=sizeLine;rw[aaX,acH,List.length_drop,aaG];lia
 have j:jo items.size items.size hi<=items.size:=aby _ _ (aav _) hi;obtain⟨os,c,e,i⟩:=id hs;have f:s.TypeIs (.ref sl) "slice" :=⟨os,c,e⟩;unfold getItem
 try with_reducible refine wpAny_holding ?_
 first |refine aaB (aaD ?_)|skip
 refine aaB (wpAny_sequenceKey a.typeIs DZ ?_)
 refine aaB (wpAny_callSpecial?_slot (name:=Str.ofString "__getitem__") a.typeIs PyProof.Rows.slot_tuple_getitem
  (wpAny_call_entry PyProof.Rows.slot_tuple_getitem a.typeIs entry_tuple_getitem ?_ (args_tuple_getitem _ _)))
 show wpAny _ _ (Builtin.Tuple.tupleItemsOf (.ref t) >>= _) _ _ s;refine aaB (tupleItemsOf_ a ?_);refine aaB (wpAny_typeOf f ?_);rw[adq DZ];refine aaB (wO hs pl pu ?_)
 have d:¬((((jo items.size 0 lo:Nat):Int)==0&&(1:Int)==1&&(jo items.size items.size hi-jo items.size 0 lo)==items.size)=true):=by intro q;rw[abt,abt] at q;have q1:((jo items.size 0 lo:Nat):Int)=0:=eq_of_beq q.1.1;have q2:jo items.size items.size hi-jo items.size 0 lo=items.size:=eq_of_beq q.2;exact hw ⟨LZ,LZ⟩
 show wpAny _ _ (if (((jo items.size 0 lo:Nat):Int)==0&&(1:Int)==1&&(jo items.size items.size hi-jo items.size 0 lo)==items.size)=true then _ else _) _ _ s;rw[adp d,Va]
 first
  | exact aaB (m:=Builtin.Tuple.tupleExact _) (wpAny_newObj_type (aaD ⟨_,Z,aaD h⟩) b)
  | exact aaB (m:=Builtin.Tuple.tupleExact _) (wpAny_newObj_type (aaB (aaD (aaD ⟨_,Z,aaD h⟩))) b)
  | exact aaB (aaB (m:=Builtin.Tuple.tupleExact _) (wpAny_newObj_type (aaD (aaD ⟨_,Z,aaD h⟩)) b))
  | exact aaB (aaB (m:=Builtin.Tuple.tupleExact _) (wpAny_newObj_type (aaD ⟨_,Z,aaD h⟩) b))
end
end HT
namespace L2
open PySem PySem.Spec PyProof.Rows
abbrev TO:=St->Hp->(Option Int->Hp->Prop)->Prop
def PO(X:Cx)(e:Option Expr)(t:TO):Prop:=
 ∀(pins:zzw)(s:Shared)(σ:St)(H:Hp)(Q:Option Int->Hp->Prop),Inv X pins σ H s->t σ H Q ->wpAny (model X.prog X.w) X.A (evalPart e X.env) (λu s'=>∃o H',Inv X pins σ H' s'/\IsPart u o/\Q o H') X.xe s
def FJ:TO:=λ_ H Q=>Q none H
inductive NQ(Q:Option Int->Hp->Prop)(x:V)(H1:Hp):Prop|m:∀i,x=.int i->Q (some i) H1->NQ Q x H1
def T_(t:TE):TO:=λσ H Q=>t σ H λx H1=>NQ Q x H1
def intsAre_of:∀{us:zzt},Vals (ns.map V.int) us->IntsAre us ns:=by
 induction ns with
 | nil=>intro us r;rw[List.map_nil] at r;cases r;exact .nil
 | cons n ns c=>
   intro us r;rw[List.map_cons] at r;cases r with
   | cons b a=>
     obtain⟨t,e⟩:=b;subst e;exact .cons n t (c a)
section
variable{lo hi:Option Expr}{tl th:TO}
def mQ:PO X none FJ:=by intro a s b H Q I h;rw[evalPart_none];exact aaD ⟨none,H,I,.none,h⟩
def mO(h:PE X e te):PO X (some e) (T_ te):=by intro a s b H Q I hw;rw[evalPart_some];refine dM (h a s b H _ I hw) λu g d=>?_;obtain⟨x,H1,f,c,q1⟩:=d;obtain⟨i,rfl,q⟩:=q1;obtain⟨t,rfl⟩:=c;exact⟨some i,H1,f,.int i t,q⟩
def SlR(X:Cx)(r:V->Option Int->Option Int->Hp->VK->Prop):Prop:=
 ∀(pins:zzw)(s:Shared)(σ:St)(H:Hp)(x:V)(v vl vu:Value)(lo hi:Option Int)(sl:Addr)(Q:VK),Inv X pins σ H s->RelV x v->s.heap.IsSliceOf sl vl vu .none->IsPart vl lo->IsPart vu hi->r x lo hi H Q ->∃T id,typeLookup (.type T) "__getitem__" = pure (some (.builtin id))/\s.TypeIs v T/\wpAny (model X.prog X.w) X.A (getItem v (.ref sl)) (EP X pins σ Q) X.xe s
def tSl(r:V->Option Int->Option Int->Hp->VK->Prop)(c:TE)(a b:TO):TE:=λσ H Q=>c σ H λx H1=>a σ H1 λl H2=>b σ H2 λu d=>r x l u d Q
def jQ{r:V->Option Int->Option Int->Hp->VK->Prop}(w:SlR X r)(he:PE X e te)(y:PO X lo tl)(p:PO X hi th):PE X (.Subscript e (.Slice lo hi none p2) pos) (tSl r te tl th):=by intro a s d H Q I h;refine Subscript_ (dM (he a s d H _ I h) λv m i=>?_);obtain⟨x,H1,E,n,q1⟩:=i;refine wpAny_Slice (dM (y a m d H1 _ E q1) λg k ⟨l,H2,D,o,q2⟩=>dM (p a k d H2 _ D q2) λf c i=>?_);obtain⟨u,j,C,pu,q3⟩:=i;rw[evalPart_none];refine aaD ?_;have B:Inv X a d j {c with heap:=c.heap.push {cls:= .type "slice",data:= .fields #[g,f,.none]}}:=C.kept (t':=c.toks) λb F q=>aaq _ q;obtain⟨T,id,A,t,z⟩:=w a {c with heap:=c.heap.push {cls:= .type "slice",data:= .fields #[g,f,.none]}} d j x v g f l u c.heap.objs.size Q B n (Heap.IsSliceOf.new ..) o pu q3;show wpAny (model X.prog X.w) X.A (subscriptTail e (.Slice lo hi none p2) v (.ref c.heap.objs.size)) (EP X a d Q) X.xe {c with heap:=c.heap.push {cls:= .type "slice",data:= .fields #[g,f,.none]}};exact tail_any (ops:=[.ref c.heap.objs.size,v]) t A z (by with_unfolding_all rfl)
def lQ(xs:List V)(lo hi:Option Int):List V:=(xs.drop (HT.jo xs.length 0 lo)).take (HT.jo xs.length xs.length hi-HT.jo xs.length 0 lo)
def yw(xs:List V)(lo hi:Option Int):(lQ xs lo hi).length<=xs.length:=by unfold lQ;rw[acH,List.length_drop];lia
inductive abD(K:zzy)(x:V)(lo hi:Option Int)(H:Hp)(Q:VK):Prop|m:∀a xs,x=.ref a->cC K H a xs -> ¬(HT.jo xs.length 0 lo=0/\HT.jo xs.length xs.length hi=xs.length)->(∀p,H p=none->Q (.ref p) (upd H p (.tup (lQ xs lo hi))))->abD K x lo hi H Q
def abv:SlR X (abD X.K):=by
 intro i s t H x v w u e g y Q I l p m pu h;obtain⟨a,d,rfl,n,hw,q⟩:=h;cases l;obtain⟨f,r,k,j⟩:=I.tuple n;have c:f.toArray.size=d.length:=by rw[aaX];exact r.length.symm
 refine⟨"tuple",_,PyProof.Rows.slot_tuple_getitem.lookup,k.typeIs,?_⟩;refine HT.vL k p m pu (by rw[c];exact hw) ?_ (by rw[c];exact j);rw[c];refine⟨.ref s.heap.objs.size,_,I.laid (t':=s.toks) (o:= .tup (lQ d e g)) (λb z q=>aaq _ q) (aav _) ?_,Z,q _ (I.hok.fresh (aav _))⟩;exact⟨adl (yw d e g) j,_,(r.drop (HT.jo d.length 0 e)).take (HT.jo d.length d.length g-HT.jo d.length 0 e),IsTup.new _ _⟩
def Vals.O7(r:Vals xs us):us=[]↔xs=[]:=by
 cases r with
 | nil=>simp
 | cons _ _=>simp
end
def Rj(n:Nat)(i:Int):Option Nat:=if 0<=i then (if i<n then some i.toNat else none) else if -(n:Int)<=i then some (i+n).toNat else none
def yP{α:Type}(xs:List α)(i:Int):Option α:=(Rj xs.length i).bind λj=>xs[j]?
def Pq{i:Int}(h:Rj n i=some j):seqIndex? i n=some j/\j<n /\ -(n:Int)<=i/\i<n:=by
 unfold Rj at h
 by_cases b:0<=i
 .rw[adq b] at h
  by_cases a:i<n
  .rw[adq a] at h
   have e:i.toNat=j:=aaY h;exact⟨by rw[seqIndex_of b a,e],LZ,LZ,a⟩
  .rw[adp a] at h;cases h
 .rw[adp b] at h
  by_cases a: -(n:Int)<=i
  .rw[adq a] at h
   have e:(i+n).toNat=j:=aaY h;exact⟨by rw[seqIndex_neg LZ a,e],LZ,a,LZ⟩
  .rw[adp a] at h;cases h
def HB{α:Type}{xs:List α}{i:Int}{v:α}(h:yP xs i=some v):∃j,seqIndex? i xs.length=some j/\xs[j]?=some v/\j<xs.length /\ -(xs.length:Int)<=i/\i<xs.length:=by
 unfold yP at h;cases e:Rj xs.length i with
 | none=>rw[e] at h;cases h
 | some j=>
   rw[e] at h;obtain⟨d,c,b,a⟩:=Pq e;exact⟨j,d,h,c,b,a⟩
def cj{α:Type}{xs:List α}{v:α}(h:xs[j]?=some v):yP xs (j:Int)=some v:=by
 have a:j<xs.length:=(aam.mp h).1
 have e:Rj xs.length (j:Int)=some j:=by unfold Rj;rw[adq LZ,adq LZ];simp
 unfold yP;rw[e];exact h
def Z_(b:Expr):Prop:=∀o i,subscripted b false o i=operate [o,i] (getItem o i)
def IxR(X:Cx)(r:R2):Prop:=
 ∀(value slice:Expr)(pins:zzw)(s:Shared)(σ:St)(H:Hp)(x y:V)(v u:Value)(Q:VK),Inv X pins σ H s->RelV x v->RelV y u->r x y H Q ->subscripted slice false v u=operate [v,u] (getItem v u)->wpAny (model X.prog X.w) X.A (subscriptTail value slice v u) (EP X pins σ Q) X.xe s
def MtR(X:Cx)(id:String)(r:V->List V->Hp->VK->Prop):Prop:=
 ∀(pins:zzw)(s:Shared)(σ:St)(H:Hp)(x:V)(xs:List V)(v:Value)(us:zzt)(Q:VK),Inv X pins σ H s->RelV x v->Vals xs us->r x xs H Q ->wpAny (model X.prog X.w) X.A (call (.builtin id) (v::us)) (EP X pins σ Q) X.xe s
section
variable{a b:Expr}{tb:TE}
def aP{r:R2}(i:IxR X r)(k:PE X a ta)(j:PE X b tb)(hs:Z_ b):PE X (.Subscript a b pos) (CT r ta tb):=by intro c s d H Q I h;exact Subscript_ (ac2 k j I h λv u e x y H2 l g f q=>i a b c e d H2 x y v u Q l g f q (hs _ _))
inductive qO(K:zzy)(x y:V)(H:Hp)(Q:VK):Prop|m:∀p xs i v,x=.ref p->y=.int i->bF K H p xs->yP xs i=some v->Q v H->qO K x y H Q
inductive Uz(K:zzy)(x y:V)(H:Hp)(Q:VK):Prop|m:∀p xs i v,x=.ref p->y=.int i->cC K H p xs->yP xs i=some v->Q v H->Uz K x y H Q
inductive aeo(x y:V)(H:Hp)(Q:VK):Prop|m:∀z i c,x=.str z->y=.int i->z.length<=sizeLine->yP z.cps.toList i=some c->Q (.str ⟨#[c]⟩) H->aeo x y H Q
def Zo:IxR X (qO X.K):=by
 intro value slice a s k H x y v u Q I B A h l;obtain⟨p,K,i,z,rfl,rfl,C,E,q⟩:=h;cases B;obtain⟨t,rfl⟩:=A;obtain⟨f,r,e,L⟩:=I.list C;obtain⟨j,c,J,N,G,F⟩:=HB E;obtain⟨w,n,d⟩:=r.get J;have D:=r.length;have M:=ur;have b:EP X a k Q w s:=⟨z,H,I,d,q⟩
 by_cases m:0<=i
 .have g:i.toNat=j:=by rw[seqIndex_of m F] at c;exact aaY c
  exact item_listR e.isList m LZ (by rw[g];simpa using n) b l
 .have g:(i+(f.toArray.size:Int)).toNat=j:=by rw[seqIndex_neg LZ G] at c;rw[aaX,←D];exact aaY c
  exact subscriptTail_builtinR (x:=w) e.isList.typeIs slot_list_getitem.lookup
   (wpAny_getItem_list_neg (Q:=λr o=>r=w/\EP X a k Q r o) e.isList LZ (by rw[aaX]<;>lia) LZ (by rw[g];simpa using n) ⟨Z,b⟩) l
def acy:IxR X (Uz X.K):=by
 intro value slice a s d H x y v u Q I k g h m;obtain⟨p,E,i,z,rfl,rfl,n,A,q⟩:=h;cases k;obtain⟨t,rfl⟩:=g;obtain⟨l,r,e,F⟩:=I.tuple n;obtain⟨j,C,B,L,K,J⟩:=HB A;obtain⟨w,D,b⟩:=r.get B;have o:=r.length;have G:=ur;have c:EP X a d Q w s:=⟨z,H,I,b,q⟩
 exact subscriptTail_builtinR (x:=w) e.typeIs slot_tuple_getitem.lookup
  (getItem_tuple (j:=j) (Q:=λr f=>r=w/\EP X a d Q r f) e LZ LZ (by rw[aaX,←o];exact C) (by simpa using D) ⟨Z,c⟩) m
def LC:IxR X aeo:=by
 intro value slice a s r H x y v u Q I e d h f;obtain⟨z,i,c,rfl,rfl,A,k,q⟩:=h;obtain⟨t,rfl⟩:=e;obtain⟨w,rfl⟩:=d;obtain⟨j,b,n,C,m,l⟩:=HB k;have g:z.cps.toList.length=z.length:=by simp[Str.length]
 rw[g] at b m l;have B:=ur
 exact tail_any (typeIs_str s z t) slot_str_getitem.lookup (getItem_str (c:=c) (by have p:decide (i < -(2 ^ 63:Int))=false:=aaP LZ;have o:decide (i≥2 ^ 63)=false:=aaP LZ;rw[p,o,Bool.or_false]) (by rw[b];simpa using n) ⟨.str ⟨#[c]⟩,H,I.tok _,⟨_,Z⟩,q⟩) f
def Lk(a:zzt)(n j:Nat)(u:Value):Obj.mapSeq (·.setIfInBounds j u) {cls:= .type "list",data:= .seq a.toArray n}={cls:= .type "list",data:= .seq (a.set j u).toArray n}:=by simp[Obj.mapSeq]
theorem Inv.lst{a:zzw}{b:St}{H:Hp}{s:Shared}{p:Addr}{xs:List V}(I:Inv X a b H s)(h:H p=some (.lst xs)):
 ∃(its:zzt) (n:Nat),Vals xs its/\s.heap.get? p=some {cls:= .type "list",data:= .seq its.toArray n}/\xs.length<=sizeLine:=by
 obtain⟨z,its,n,r,e⟩:=I.hok p _ h;exact⟨its,n,r,e,z⟩
def Inv.aco{a:Nat}{f:Obj->Obj}(I:Inv X pins σ H s)(h:H p=some (.lst xs))(g:s.heap.get? p=some {cls:= .type "list",data:= .seq its.toArray n})(c:f {cls:= .type "list",data:= .seq its.toArray n}={cls:= .type "list",data:= .seq its'.toArray a})(r:Vals ys its')(d:ys.length<=sizeLine)(t:Nat):
 Inv X pins σ (upd H p (.lst ys)) {s with heap:=s.heap.update p f,toks:=t}:=by
 have e:(s.heap.update p f).get? p=some {cls:= .type "list",data:= .seq its'.toArray a}:=by rw[Heap.get?_update_self f g (by rw[c]<;>rfl),c]
 refine I.write (x:=p) (e:=p) (by rw[h];trivial) (.inl rfl) (λb u i q=>(Heap.get?_update_other _ _ (Ne.symm i)).trans q) ⟨_,e⟩ ?_;exact⟨d,its',a,r,e⟩
inductive Ol(o i v:V)(H:Hp)(Q:(Hp->Prop)):Prop|m:∀p xs k j,o=.ref p->i=.int k->H p=some (.lst xs)->Rj xs.length k=some j->Q (upd H p (.lst (xs.set j v)))->Ol o i v H Q
def set_list:ada X Ol:=by
 intro a s y H o i v F G u Q I B C A h;obtain⟨p,z,k,j,rfl,rfl,g,E,q⟩:=h;cases B;obtain⟨t,rfl⟩:=C;obtain⟨b,n,r,d,D⟩:=I.lst g;obtain⟨c,K,m,l⟩:=Pq E;have e:=r.length;have J:=ur
 have x:Inv X a y (upd H p (.lst (z.set j v))) {s with heap:=s.heap.update p (Obj.mapSeq (·.setIfInBounds j u))}:=I.aco g d (Lk b n j u) (r.set A j) (by rw[acF];exact D) s.toks
 by_cases w:0<=k
 .have f:k.toNat=j:=by rw[seqIndex_of w l] at c;exact aaY c
  exact W.ki_setAt d w LZ (by rw[aaX,←e];exact l) (by rw[f];exact⟨_,x,q⟩)
 .have f:(k+(b.toArray.size:Int)).toNat=j:=by rw[seqIndex_neg LZ m] at c;rw[aaX,←e];exact aaY c
  exact W.ki_setBack d LZ (by rw[aaX,←e];exact m) LZ (by rw[f];exact⟨_,x,q⟩)
def Ge(lo hi:Option Int)(n:Nat):(sliceBounds lo hi none n).1=((HT.jo n 0 lo:Nat):Int)/\(sliceBounds lo hi none n).2.1=((HT.jo n n hi:Nat):Int)/\(sliceBounds lo hi none n).2.2=1:=by
 refine⟨?_,?_,Z⟩
 .cases lo with
  | none=>simp[sliceBounds,HT.jo]
  | some i=>
    simp only[sliceBounds,HT.jo,Option.getD_none,show (1:Int)>0 by decide,if_true]
    by_cases h:i<0
    .simp only[h,if_true]<;>lia
    .simp only[h,if_false]<;>lia
 .cases hi with
  | none=>simp[sliceBounds,HT.jo]
  | some i=>
    simp only[sliceBounds,HT.jo,Option.getD_none,show (1:Int)>0 by decide,if_true]
    by_cases h:i<0
    .simp only[h,if_true]<;>lia
    .simp only[h,if_false]<;>lia
def Dh(a:zzt)(lo hi:Option Int):slicePick a.toArray lo hi none=((a.drop (HT.jo a.length 0 lo)).take (HT.jo a.length a.length hi-HT.jo a.length 0 lo)).toArray:=by obtain⟨d,c,b⟩:=Ge lo hi a.toArray.size;unfold slicePick;rw[d,c,b];simp only[sliceRange_one,pick_run,aaX]<;>rfl
inductive Uy(K:zzy)(x:V)(lo hi:Option Int)(H:Hp)(Q:VK):Prop|m:∀a xs,x=.ref a->bF K H a xs->(∀p,H p=none->Q (.ref p) (upd H p (.lst (lQ xs lo hi))))->Uy K x lo hi H Q
def Ym:SlR X (Uy X.K):=by intro g s t H x v w u e f y Q I j p k pu h;obtain⟨a,c,rfl,n,q⟩:=h;cases j;obtain⟨l,r,i,m⟩:=I.list n;have d:=r.length;refine⟨"list",_,slot_list_getitem.lookup,i.isList.typeIs,?_⟩;refine wpAny_getItem_list_slice i.isList p k pu .none MZ ?_ (by rw[aaX]<;>lia);rw[Dh,←d];refine⟨.ref s.heap.objs.size,_,I.laid (t':=s.toks) (o:= .lst (lQ c e f)) (λb z q=>aaq _ q) (aav _) ?_,Z,q _ (I.hok.fresh (aav _))⟩;exact⟨adl (yw c e f) m,_,0,(r.drop (HT.jo c.length 0 e)).take (HT.jo c.length c.length f-HT.jo c.length 0 e),aar _ rfl⟩
def vP:V->Bool
 | .non=>true
 | .bl _=>true
 | .int _=>true
 | .str _=>true
 | _=>false
def Wx:V->V->Bool
 | .non,.non=>true
 | .bl a,.bl b=>a==b
 | .bl a,.int b=>(if a then 1 else 0)==b
 | .int a,.bl b=>a==(if b then 1 else 0)
 | .int a,.int b=>a==b
 | .str a,.str b=>a==b
 | _,_=>false
def acR{x:V}{v:Value}(e:RelV y u)(c:RelV x v)(g:vP y=true)(f:vP x=true):SeqAt.EqAt A s u v (Wx y x):=by
 cases y with
 | non=>
   cases e;cases x with
   | non=>cases c;exact SeqAt.EqAt.same _
   | bl b=>cases c;exact SeqAt.EqAt.none_bool b
   | int b=>obtain⟨t,rfl⟩:=c;exact SeqAt.EqAt.none_int b t
   | str b=>obtain⟨t,rfl⟩:=c;exact SeqAt.EqAt.none_str b t
   | _=>exact adt (show false=true from f) aaT
 | bl a=>
   cases e;cases x with
   | non=>cases c;exact SeqAt.EqAt.bool_none a
   | bl b=>cases c;exact SeqAt.EqAt.bool_bool a b
   | int b=>obtain⟨t,rfl⟩:=c;exact SeqAt.EqAt.bool_int a b t
   | str b=>obtain⟨t,rfl⟩:=c;exact SeqAt.EqAt.bool_str a b t
   | _=>exact adt (show false=true from f) aaT
 | int a=>
   obtain⟨d,rfl⟩:=e;cases x with
   | non=>cases c;exact SeqAt.EqAt.int_none a d
   | bl b=>cases c;exact SeqAt.EqAt.int_bool a d b
   | int b=>obtain⟨t,rfl⟩:=c;exact SeqAt.EqAt.int_int a d b t
   | str b=>obtain⟨t,rfl⟩:=c;exact SeqAt.EqAt.int_str a d b t
   | _=>exact adt (show false=true from f) aaT
 | str a=>
   obtain⟨d,rfl⟩:=e;cases x with
   | non=>cases c;exact SeqAt.EqAt.str_none a d
   | bl b=>cases c;exact SeqAt.EqAt.str_bool a d b
   | int b=>obtain⟨t,rfl⟩:=c;exact SeqAt.EqAt.str_int a d b t
   | str b=>obtain⟨t,rfl⟩:=c;exact SeqAt.EqAt.str_str a d b t
   | _=>exact adt (show false=true from f) aaT
 | _=>exact adt (show false=true from g) aaT
def ZQ(x:V)(u:Value):Bool:=match u with
 | .none=>Wx .non x
 | .bool b=>Wx (.bl b) x
 | .int i _=>Wx (.int i) x
 | .str z _=>Wx (.str z) x
 | _=>false
def Wy{x:V}(r:RelV y u)(f:vP y=true):ZQ x u=Wx y x:=by
 cases y with
 | non=>cases r;rfl
 | bl b=>cases r;rfl
 | int i=>obtain⟨t,rfl⟩:=r;rfl
 | str z=>obtain⟨t,rfl⟩:=r;rfl
 | _=>exact adt (show false=true from f) aaT
theorem HD{x:V}:∀{xs:List V}{us:zzt},Vals xs us->xs.all vP=true->us.any (ZQ x)=xs.any λy=>Wx y x
 | _,_,.nil,_=>rfl
 | y::xs,u::us,.cons r t,f=>by rw[List.all_cons,abt] at f;rw[List.any_cons,List.any_cons,Wy r f.1,HD t f.2]
theorem Bx{A:Around}{s:Shared}{x:V}{v:Value}(b:RelV x v)(c:vP x=true):∀{xs:List V}{us:zzt},Vals xs us->xs.all vP=true -> ∀u∈us,SeqAt.EqAt A s u v (ZQ x u)
 | _,_,.nil,_=>λu a=>by cases a
 | y::xs,u::us,.cons r t,f=>λd a=>by
   rw[List.all_cons,abt] at f;rcases List.mem_cons.mp a with rfl|a
   .rw[Wy r f.1];exact acR r b f.1 c
   .exact Bx b c t f.2 d a
def inV(x:V)(xs:List V):Bool:=xs.any λy=>Wx y x
inductive rIn(K:zzy)(neg:Bool)(x y:V)(H:Hp)(Q:VK):Prop|m:∀p xs,y=.ref p->(bF K H p xs\/cC K H p xs)->vP x=true->xs.all vP=true->(Q (.bl (if neg then !inV x xs else inV x xs)) H)->rIn K neg x y H Q
def QL:sZ X (compareOp .In) (rIn X.K false):=by
 intro f s k H x y v u Q I e i h;obtain⟨p,l,rfl,b,g,c,q⟩:=h;cases i;rcases b with b|b
 .obtain⟨a,r,d,j⟩:=I.list b
  refine SeqAt.in_listAt (ZQ x) d.isList (λw hw=>Bx e g r c w (by simpa using hw)) ⟨.bl _,H,I,Z,?_⟩;rw[show a.toArray.any (ZQ x)=a.any (ZQ x) by simp,HD r c];exact q
 .obtain⟨a,r,d,j⟩:=I.tuple b
  refine SeqAt.in_tupleAt (ZQ x) d (λw hw=>Bx e g r c w (by simpa using hw)) ⟨.bl _,H,I,Z,?_⟩;rw[show a.toArray.any (ZQ x)=a.any (ZQ x) by simp,HD r c];exact q
def Hx:jm X (.builtin "len") (λxs H Q=>∃p ys,xs=[.ref p]/\(bF X.K H p ys\/cC X.K H p ys)/\Q (.int ys.length) H):=by
 intro f s j H xs k Q I r h;obtain⟨p,ys,rfl,b,q⟩:=h;obtain⟨u,rfl,g⟩:=vals1 r;cases g;have l:=ur;rcases b with b|b
 .obtain⟨e,c,d,i⟩:=I.list b
  have a:=c.length;exact Calls.call_len_list d.isList (by simp only[aaX]<;>lia) ⟨.int ys.length,H,I.tok _,⟨s.toks+1,by rw[aaX,a]⟩,q⟩
 .obtain⟨e,c,d,i⟩:=I.tuple b
  have a:=c.length;exact len_tuple d (by simp only[aaX]<;>lia) ⟨.int ys.length,H,I.tok _,⟨s.toks+1,by rw[aaX,a]⟩,q⟩
def Hw:jm X (.type "list") (λxs H Q=>∃p ys,xs=[.ref p]/\(bF X.K H p ys\/cC X.K H p ys) /\ ∀l,H l=none->Q (.ref l) (upd H l (.lst ys))):=by
 intro g s A H xs C Q I r h;obtain⟨p,ys,rfl,k,q⟩:=h;obtain⟨u,rfl,B⟩:=vals1 r;cases B
 have t:∀(a:zzt),Vals ys a->ys.length<=sizeLine -> ∀(c:Heap)(f:Nat),(∀b z,s.heap.get? b=some z->c.get? b=some z) ->c.get? s.heap.objs.size=some {cls:= .type "list",dict:=none,data:= .seq a.toArray f,slots:= #[]}->EP X g A Q (.ref s.heap.objs.size) {s with heap:=c}:=λa d j c f i e=>
  ⟨.ref s.heap.objs.size,_,I.laid (t':=s.toks) i (aav _) (show dU X.prog X.w _ c _ (.lst ys) from ⟨j,a,f,d,e⟩),Z,q _ (I.hok.fresh (aav _))⟩
 rcases k with k|k
 .obtain⟨a,d,v,j⟩:=I.list k
  have m:=d.length;obtain⟨o,w,y,n,x⟩:=v.isList;exact call_list_seq p (.inl rfl) w y x (λc f i e=>t a d j c f i e) (by simp only[aaX]<;>lia)
 .obtain⟨a,d,v,j⟩:=I.tuple k
  have m:=d.length;obtain⟨o,w,y,n,x⟩:=v;exact call_list_seq p (.inr rfl) w y x (λc f i e=>t a d j c f i e) (by simp only[aaX]<;>lia)
def tyV(K:zzy)(T:String)(x:V)(H:Hp):Prop:=match x with
 | .str _=>T = "str"
 | .int _=>T = "int"
 | .ref p=>(T = "list" /\ ∃xs,bF K H p xs)\/(T = "tuple" /\ ∃o,K.lookup p=some o/\o.cls=.type "tuple" /\ o.dict=none) \/
    (T = "dict" /\ ((∃kvs,H p=some (.dK kvs)) \/ ∃kvs,H p=some (.dT kvs)))\/(T = "set" /\ ∃S n,H p=some (.set S n))
 | _=>False
def Tt{x:V}{v:Value}(I:Inv X pins σ H s)(r:RelV x v)(ty:tyV X.K T x H):
 s.TypeIs v T /\ ∀a,v=.ref a -> ∃ob,s.heap.get? a=some ob/\ob.dict=none:=by
 cases x with
 | str z=>
   obtain⟨t,rfl⟩:=r;cases (show T = "str" from ty);exact⟨typeIs_str s z t,λ_ e=>nomatch e⟩
 | int i=>
   obtain⟨t,rfl⟩:=r;cases (show T = "int" from ty);exact⟨typeIs_int s i t,λ_ e=>nomatch e⟩
 | ref p=>
   cases r;rcases ty with ⟨rfl,m,k⟩|⟨rfl,o,b,l,f⟩|⟨rfl,b⟩|⟨rfl,S,n,b⟩
   .obtain⟨j,_,h,_⟩:=I.list k
    refine⟨h.isList.typeIs,λa e=>?_⟩;cases e;obtain⟨o,n,e,c,f,_⟩:=h;exact⟨o,e,f⟩
   .refine⟨⟨o,I.oO p o b,l⟩,λa e=>?_⟩
    cases e;exact⟨o,I.oO _ o b,f⟩
   .have z:∃o,s.heap.get? p=some o/\o.ExactDict:=by
     rcases b with ⟨d,b⟩|⟨d,b⟩
     .obtain⟨_,_,_,_,o,_,_,e,ex,_⟩:=I.hok p _ b
      exact⟨o,e,ex⟩
     .obtain⟨_,_,_,_,o,_,_,e,ex,_⟩:=I.hok p _ b
      exact⟨o,e,ex⟩
    obtain⟨o,e,ex⟩:=z;refine⟨⟨o,e,ex.1⟩,λa g=>?_⟩;cases g;exact⟨o,e,ex.2.1⟩
   .obtain⟨o,_,_,_,e,ex,_⟩:=I.hok p _ b
    refine⟨⟨o,e,ex.1⟩,λa g=>?_⟩;cases g;exact⟨o,e,ex.2.1⟩
 | _=>exact False.elim ty
def aeb(K:zzy)(T:String)(r:V->List V->Hp->VK->Prop)(to:TE):TE:=λσ H Q=>to σ H λx H1=>tyV K T x H1/\r x [] H1 Q
def tBM(K:zzy)(T:String)(r:V->List V->Hp->VK->Prop)(to:TE)(t:TA):TE:=λσ H Q=>to σ H λx H1=>tyV K T x H1/\t σ H1 λxs H2=>r x xs H2 Q
variable{o:Expr}{t:TA}{id:String}{r:V->List V->Hp->VK->Prop}
def abQ(j:PlainAttrs T)(slot:Slot T name id)(d:typeOf (.builtin id)=pure (.type "method_descriptor"))(m:MtR X id r)(l:PE X o to)(c:attributeBase o name X.env (eval o X.env)=eval o X.env:=by rfl)(b:(apos.endLine==cpos.line)=true:=by rfl):PE X (.Call (.Attribute o name apos) [] [] cpos) (aeb X.K T r to):=by intro a s e H Q I h;refine wpAny_Call_method0_late c b (dM (l a s e H _ I h) λv i k=>?_);obtain⟨x,H1,g,f,ty,q1⟩:=k;obtain⟨p,n⟩:=Tt g f ty;exact⟨T,id,j,slot,d,p,n,Calls.callWith_builtin rfl (PySem.evalArgs_none (m a i e H1 x [] v [] Q g f .nil q1))⟩
def aax(w:PlainAttrs T)(slot:Slot T name id)(i:typeOf (.builtin id)=pure (.type "method_descriptor"))(A:MtR X id r)(z:PE X o to)(B:PA X (e::es) t)(d:attributeBase o name X.env (eval o X.env)=eval o X.env:=by rfl)(f:((backTo cpos (starEach (e::es) X.env)).all (λx=> !x.1)&&(backToKw cpos (keywordEach [] X.env)).all (λx=>x.1.isSome)
   && decide ((e::es).length+([]:List Keyword).length+(if ([]:List Keyword).isEmpty then 0 else 1)<30))=true:=by rfl)(c:(apos.endLine==cpos.line)=true:=by rfl)(hs:starEach (e::es) X.env=(false,eval e X.env)::starEach es X.env:=by rfl)(b:(backTo cpos (starEach es X.env)).any (·.1)=false:=by rfl):
 PE X (.Call (.Attribute o name apos) (e::es) [] cpos) (tBM X.K T r to t):=by
 intro a s g H Q I h;refine wpAny_Call_method_late d f c rfl (dM (z a s g H _ I h) λv q y=>?_);obtain⟨x,H1,l,j,ty,q1⟩:=y;obtain⟨D,C⟩:=Tt l j ty;refine⟨T,id,w,slot,i,D,C,?_⟩;have k:=B cpos a q g H1 _ l q1;rw[hs] at k ⊢;refine Calls.callWith_builtin (by show (false||(backTo cpos (starEach es X.env)).any (·.1))=false;rw[b]<;>rfl) (Calls.evalArgs_plain ?_);exact dM k λn p ⟨m,H2,E,u,q2⟩=>A a p g H2 x m v n Q E j u q2
end
def MtM(X:Cx)(id:String)(r:V->List V->Hp->VK->Prop):Prop:=
 ∀(pins:zzw)(s:Shared)(σ:St)(H:Hp)(x:V)(xs:List V)(v:Value)(us:zzt)(Q:VK),Inv X pins σ H s->RelV x v->Vals xs us->r x xs H Q ->wpAny (model X.prog X.w) X.A (call (.builtin id) (v::us)) (EP X pins σ Q) X.xe s
def Vals.one{x:V}(h:Vals [x] us):∃u,us=[u]/\RelV x u:=by
 cases h with
 | cons r t=>cases t;exact⟨_,Z,r⟩
def Vals.zero:∀{us:zzt},Vals [] us->us=[]
 | _,.nil=>rfl
theorem Vals.rep{xs:List V}{us:zzt}(h:Vals xs us):∀k:Nat,Vals (List.replicate k xs).flatten (List.replicate k us).flatten
 | 0=> .nil
 | k+1=>by rw[List.replicate_succ,List.replicate_succ,List.flatten_cons,List.flatten_cons];exact Vals.append h (Vals.rep h k)
theorem foldl_rep(a:zzt):∀(k:Nat)(b:zzt),
 List.foldl (λx1 c=>x1++c) b.toArray (List.replicate k a.toArray)=(b++(List.replicate k a).flatten).toArray
 | 0,b=>by simp
 | k+1,b=>by
   have e:b.toArray++a.toArray=(b++a).toArray:=by simp
   have d:(b++a)++(List.replicate k a).flatten=b++(List.replicate (k+1) a).flatten:=by rw[List.replicate_succ,List.flatten_cons,List.append_assoc]
   rw[←d,←foldl_rep a k (b++a),←e,List.replicate_succ,List.foldl_cons]
section
variable{l:Addr}{zs:List V}
def Inv.acp{f:Array Value->Array Value}(I:Inv X pins σ H s)(h:H l=some (.lst xs))(e:s.heap.get? l=some {cls:= .type "list",data:= .seq its.toArray n})(d:f its.toArray=its'.toArray)(b:Vals ys its')(a:ys.length<=sizeLine):
 Inv X pins σ (upd H l (.lst ys)) {s with heap:=s.heap.update l (Obj.mapSeq f),toks:=t'}:=by
 have q:=PySem.IsL.update e f;rw[d] at q;refine I.write (x:=l) (e:=l) (by rw[h];exact trivial) (.inl rfl) (λi u g c=>(Heap.get?_update_other s.heap (Obj.mapSeq f) (Ne.symm g)).trans c) ⟨_,q⟩ ?_;exact⟨a,its',_,b,q⟩
def Inv.aeJ(I:Inv X pins σ H s)(b:Vals ys its)(a:ys.length<=sizeLine):
 Inv X pins σ (upd H s.heap.objs.size (.lst ys)) {s with heap:=s.heap.push {cls:= .type "list",data:= .seq its.toArray},toks:=t'}:=
 I.laid (λ_ _ q=>aaq _ q) (aav _) ⟨a,its,0,b,aar _ rfl⟩
theorem Inv.fresh(I:Inv X pins σ H s):H s.heap.objs.size=none:=I.hok.fresh (aav _)
def Inv.Lr(I:Inv X pins σ H s)(a:H l=some (.lst xs)):xs.length<=sizeLine /\ ∃(its:zzt) (n:Nat),Vals xs its/\xs.length=its.length/\s.heap.get? l=some {cls:= .type "list",data:= .seq its.toArray n}:=by obtain⟨z,its,n,r,e⟩:=I.hok l _ a;exact⟨z,its,n,r,r.length,e⟩
def Jl(h:n<=sizeLine):Builtin.List.listTooLong n=false:=by unfold Builtin.List.listTooLong;exact aaP LZ
end
inductive vo(x:V)(vs:List V)(H:Hp)(Q:VK):Prop|m:∀l xs y,x=.ref l->vs=[y]->H l=some (.lst xs)->xs.length<sizeLine->Q .non (upd H l (.lst (xs++[y])))->vo x vs H Q
def Em:MtM X "list.append" vo:=by intro b s i H x k v m Q I d f h;obtain⟨l,j,y,rfl,rfl,c,o,q⟩:=h;cases d;obtain⟨u,rfl,g⟩:=f.one;obtain⟨z,a,n,r,p,e⟩:=I.Lr c;refine call_meets F.slot_list_append ⟨_,e,Z⟩ F.entry_list_append (F.args_list_append_2 _ _) (PySem.list_append l a.toArray n u (by rw[aaX];lia)) ⟨e,?_⟩;refine⟨.non,_,I.acp (its':=a++[u]) c e MZ (r.append (.cons g .nil)) ?_,Z,q⟩;rw[aa1,acj];lia
inductive Om(x:V)(vs:List V)(H:Hp)(Q:VK):Prop|m:∀l b xs zs,x=.ref l->vs=[.ref b]->H l=some (.lst xs)->H b=some (.lst zs)->xs.length+zs.length<=sizeLine->Q .non (upd H l (.lst (xs++zs)))->Om x vs H Q
def Q7:MtM X "list.extend" Om:=by
 intro f s A H x D v E Q I i j h;obtain⟨l,b,C,zs,rfl,rfl,g,t,G,q⟩:=h;cases i;obtain⟨u,rfl,k⟩:=j.one;cases k;obtain⟨z,c,n,r,J,e⟩:=I.Lr g;obtain⟨B,a,o,m,p,w⟩:=I.Lr t;have d:c.toArray.size+a.toArray.size<=sizeLine:=by rw[aaX,aaX];lia
 have y:¬(!c.toArray.isEmpty&&Builtin.List.listTooLong (c.toArray.size+a.toArray.size))=true:=by rw[Jl d,Bool.and_false];exact aaT
 refine call_meets F.slot_list_extend ⟨_,e,Z⟩ F.entry_list_extend (F.args_list_extend_2 _ _)
  (AutoSeq1.list_extend_list_list_0 l c.toArray n b a.toArray o y (by rw[aaX];lia) LZ) ⟨e,w,?_⟩
 refine⟨.non,_,I.acp (its':=c++a) g e MZ (r.append m) ?_,Z,q⟩;rw[aa1];lia
inductive UJ(x:V)(vs:List V)(H:Hp)(Q:VK):Prop|m:∀l xs,x=.ref l->vs=[]->H l=some (.lst xs)->Q .non (upd H l (.lst []))->UJ x vs H Q
def vB:MtM X "list.clear" UJ:=by intro c s i H x k v m Q I f g h;obtain⟨l,j,rfl,rfl,d,q⟩:=h;cases f;have b:=g.zero;subst b;obtain⟨z,a,n,r,o,e⟩:=I.Lr d;refine call_meets F.slot_list_clear ⟨_,e,Z⟩ F.entry_list_clear (F.args_list_clear_1 _) (AutoSeq1.list_clear_list_0 l a.toArray n (by rw[aaX];lia)) ⟨e,?_⟩;exact⟨.non,_,I.acp (its':=[]) (ys:=[]) d e rfl .nil (Nat.zero_le _),Z,q⟩
inductive aes(x y:V)(H:Hp)(Q:VK):Prop|m:∀l b xs zs,x=.ref l->y=.ref b->H l=some (.lst xs)->H b=some (.lst zs)->xs.length+zs.length<=sizeLine->(∀p,H p=none->Q (.ref p) (upd H p (.lst (xs++zs))))->aes x y H Q
def Vk:sZ X (binaryOp .Add) aes:=by
 intro d s t H x y v u Q I g f h;obtain⟨l,b,A,zs,rfl,rfl,k,m,C,q⟩:=h;cases g;cases f;obtain⟨z,c,n,r,D,e⟩:=I.Lr k;obtain⟨w,a,B,i,j,p⟩:=I.Lr m;refine PySem.P.add_list e p ?_ (by rw[aaX,aaX];lia);have o:c.toArray++a.toArray=(c++a).toArray:=by simp
 rw[o];exact⟨.ref _,_,I.aeJ (t':=s.toks) (r.append i) (by rw[aa1];lia),Z,q _ I.fresh⟩
inductive aek(x y:V)(H:Hp)(Q:VK):Prop|m:∀l k xs,x=.ref l->y=.int k->H l=some (.lst xs) -> -(2 ^ 63)<=k->k<2 ^ 63->xs.length*k.toNat<=sizeLine->(∀p,H p=none->Q (.ref p) (upd H p (.lst (List.replicate k.toNat xs).flatten)))->aek x y H Q
def len_rep{α:Type}(xs:List α)(k:Nat):(List.replicate k xs).flatten.length=k*xs.length:=by
 induction k with
 | zero=>simp
 | succ k a=>rw[List.replicate_succ,List.flatten_cons,aa1,a,Nat.succ_mul,Nat.add_comm]
theorem Gy:sZ X (binaryOp .Mult) aek:=by
 intro o s L H x y v u Q I B A h;obtain⟨l,k,M,rfl,rfl,D,G,E,p,q⟩:=h;cases B;obtain⟨t,rfl⟩:=A;obtain⟨z,b,n,r,C,e⟩:=I.Lr D;have d:b.toArray.size*k.toNat<=sizeLine:=by rw[aaX,←C];exact p
 have g:¬b.toArray.size*k.toNat>(2 ^ 63-1) / 8:=by
  have:(sizeLine:Nat)<=(2 ^ 63-1) / 8:=by decide
  lia
 have f:¬(!Builtin.List.listFitsIndex k)=true:=by rw[fitsIndex_both G E];exact aaT
 have K:¬Builtin.List.listTooLong (b.toArray.size*k.toNat)=true:=by rw[Jl d];exact aaT
 have c:List.foldl (λj i=>j++i) #[] (List.replicate (if b.toArray.isEmpty=true then 0 else k.toNat) b.toArray)=(List.replicate k.toNat b).flatten.toArray:=by
  have J:∀m:Nat,List.foldl (λj i=>j++i) #[] (List.replicate m b.toArray)=(List.replicate m b).flatten.toArray:=λm=>by have:=foldl_rep b m [];rw[List.nil_append] at this;exact this
  rw[J];cases b with
  | nil=>simp
  | cons a N=>rw[adp MZ]
 refine wpAny_binaryOp_repeat_ref (T:= "list") (U:= "int") DZ ⟨_,e,Z⟩ (λw=>typeIs_int w k t) noFill_list_mul F.fills_int_mul F.slot_int_rmul repeat_list F.slot_int_index.lookup
  (call_meets F.slot_int_rmul (typeIs_int s k t) F.entry_int_rmul (F.args_int_rmul_2 _ _) (int___rmul___int_list k t l b.toArray n)
    ⟨e,Z,⟨_,e,Z⟩,call_meets F.slot_list_mul ⟨_,e,Z⟩ F.entry_list_mul (F.args_list_mul_2 _ _) (AutoListH.list___mul___list_int_3 l b.toArray n k t f g K) ⟨e,?_⟩⟩)
 rw[c];exact⟨.ref _,_,I.aeJ (t':=s.toks) (r.rep k.toNat) (by rw[len_rep,Nat.mul_comm];exact p),Z,q _ I.fresh⟩
section
variable{prog:Program}
end
section
variable{κ:Type}[DecidableEq κ]
def gq(a:List (κ×V))(k:κ):Option V:=(a.find? λb=>decide (b.1=k)).map (·.2)
def putK(a:List (κ×V))(k:κ)(v:V):List (κ×V):=
 if (a.any λb=>decide (b.1=k))=true then a.map (λb=>if b.1=k then (b.1,v) else b) else a++[(k,v)]
def gK{p:κ×V}{r:List (κ×V)}{k:κ}(e:p.1=k):gq (p::r) k=some p.2:=by simp[gq,List.find?_cons,e]
def gM{p:κ×V}{r:List (κ×V)}{k:κ}(e:¬p.1=k):gq (p::r) k=gq r k:=by simp[gq,List.find?_cons,e]
theorem uM(k:κ):∀kvs:List (κ×V),(kvs.any λa=>decide (a.1=k))=(gq kvs k).isSome
 | []=>rfl
 | p::r=>by
   rw[List.any_cons]
   by_cases e:p.1=k
   .simp only[gK e,aaO e,Bool.true_or,Option.isSome_some]
   .rw[gM e,aaP e,Bool.false_or];exact uM k r
theorem Im(k j:κ)(y:V):∀kvs:List (κ×V),gq (kvs.map λa=>if a.1=k then (a.1,y) else a) j=(gq kvs j).map λx=>if j=k then y else x
 | []=>rfl
 | p::r=>by
   have b:=Im k j y r;rw[List.map_cons]
   by_cases h:p.1=k
   .rw[adq h]
    by_cases e:p.1=j
    .rw[gK (p:=(p.1,y)) e,gK e,Option.map_some,adq (e.symm.trans h)]
    .rw[gM (p:=(p.1,y)) e,gM e,b]
   .rw[adp h]
    by_cases e:p.1=j
    .rw[gK (p:=p) e,gK e,Option.map_some,adp (λz=>h (e.trans z))]
    .rw[gM (p:=p) e,gM e,b]
theorem DW(k j:κ)(y:V):∀kvs:List (κ×V),gq kvs k=none->gq (kvs++[(k,y)]) j=if j=k then some y else gq kvs j
 | [],_=>by
   by_cases e:k=j
   .rw[adq e.symm];exact gK (p:=(k,y)) e
   .rw[adp (λz=>e z.symm)];exact gM (p:=(k,y)) e
 | p::r,a=>by
   rw[List.cons_append];have b:¬p.1=k:=λz=>by rw[gK z] at a;cases a
   rw[gM b] at a;have c:=DW k j y r a
   by_cases e:p.1=j
   .rw[gK e,gK e,adp (λz=>b (e.trans z))]
   .rw[gM e,gM e,c]
def zW(b:List (κ×V))(k j:κ)(y:V):gq (putK b k y) j=if j=k then some y else gq b j:=by
 unfold putK
 by_cases a:(b.any λc=>decide (c.1=k))=true
 .rw[adq a,Im]
  rw[uM] at a
  by_cases e:j=k
  .obtain⟨x,d⟩:=Option.isSome_iff_exists.mp a
   rw[adq e,e,d,Option.map_some,adq rfl]
  .rw[adp e]
   cases gq b j with
   | none=>rfl
   | some x=>rw[Option.map_some,adp e]
 .rw[adp a]
  refine DW k j y b ?_;rw[uM] at a;cases q:gq b k with
  | none=>rfl
  | some x=>rw[q] at a;exact(a rfl).elim
def yq(a:List (κ×V))(k:κ)(v:V):(putK a k v).length<=a.length+1:=by
 unfold putK;split
 .rw[aak];lia
 .rw[aa1,ac8,List.length_nil];lia
def nM.Rn{o:Option V}{u:Option Value}(r:nM o u):o.isSome=u.isSome:=by
 cases o with
 | none=>cases u with
   | none=>rfl
   | some _=>exact(show False from r).elim
 | some _=>cases u with
   | none=>exact(show False from r).elim
   | some _=>rfl
theorem nM.getD{o:Option V}{u:Option Value}{d:V}{d':Value}(r:nM o u)(a:RelV d d'):RelV (o.getD d) (u.getD d'):=by
 cases o with
 | none=>cases u with
   | none=>exact a
   | some _=>exact(show False from r).elim
 | some _=>cases u with
   | none=>exact(show False from r).elim
   | some _=>exact r
def KV.val{a:List (κ×V)}{vs:List (κ×Value)}(r:KV a vs)(k:κ):nM (gq a k) (valueAt vs k):=by
 unfold KV at r
 induction r with
 | nil=>exact True.intro
 | @cons p q j c h t g=>
   obtain⟨f,i⟩:=h
   by_cases e:p.1=k
   .have d:q.1=k:=f.symm.trans e
    have b:valueAt (q::c) k=some q.2:=by simp[valueAt,List.find?_cons,d]
    rw[gK e,b];exact i
   .have d:¬q.1=k:=λz=>e (f.trans z)
    have b:valueAt (q::c) k=valueAt c k:=by simp[valueAt,List.find?_cons,d]
    rw[gM e,b];exact g
end
def aaH{k:Key}(r:RelV (kV k) u):(fX P w).is k u=true:=by
 cases k with
 | inl i=>obtain⟨t,e⟩:=(show ∃t,u=Value.int i t from r);subst e;exact Jp P w i t
 | inr x=>obtain⟨t,e⟩:=(show ∃t,u=Value.str x t from r);subst e;exact Jo P w x t
theorem Ep{P:Program}{w:World}:∀{ks:List Key}{us:zzt},Vals (ks.map kV) us->ItemsAre (fX P w) ks us
 | [],_,r=>by rw[List.map_nil] at r;cases r;exact .nil
 | k::ks,_,r=>by
   rw[List.map_cons] at r;cases r with
   | cons h t=>exact .cons (aaH h) (Ep t)
abbrev KT(H:Hp):List (List Key×V)->List (List Key×Addr×Value)->Prop:=Paired λp q=>p.1=q.1/\H q.2.1=some (.tup (p.1.map kV))/\RelV p.2 q.2.2
def KT.val{xs:List (List Key×Addr×Value)}(r:KT H kvs xs)(k:List Key):nM (gq kvs k) ((atKey xs k).map (·.2)):=by
 induction r with
 | nil=>exact True.intro
 | @cons p q i a h t f=>
   obtain⟨d,_,g⟩:=h
   by_cases e:p.1=k
   .have c:q.1=k:=d.symm.trans e
    have b:atKey (q::a) k=some q.2:=by simp[atKey,List.find?_cons,c]
    rw[gK e,b];exact g
   .have c:¬q.1=k:=λz=>e (d.trans z)
    have b:atKey (q::a) k=atKey a k:=by simp[atKey,List.find?_cons,c]
    rw[gM e,b];exact f
def KT.repl{xs:List (List Key×Addr×Value)}(r:KT H kvs xs)(k:List Key)(d:RelV y u):
 KT H (kvs.map λb=>if b.1=k then (b.1,y) else b) (xs.map (putAt k u)):=by
 induction r with
 | nil=>exact .nil
 | @cons p q j i h t f=>
   rw[List.map_cons,List.map_cons];refine .cons ?_ f;obtain⟨a,c,g⟩:=h;unfold putAt
   by_cases e:p.1=k
   .rw[adq e,adq (a.symm.trans e)];exact⟨a,c,d⟩
   .rw[adp e,adp (λz=>e (a.trans z))];exact⟨a,c,g⟩
def KT.put{xs:List (List Key×Addr×Value)}(r:KT H kvs xs)(k:List Key)(d:H b=some (.tup (k.map kV)))(a:RelV y u):
 KT H (putK kvs k y) (storedH xs k b u):=by
 have e:(kvs.any λc=>decide (c.1=k))=(atKey xs k).isSome:=by rw[uM,(r.val k).Rn,Option.isSome_map]
 unfold putK storedH;rw[e]
 by_cases q:(atKey xs k).isSome=true
 .rw[adq q,adq q];exact r.repl k a
 .rw[adp q,adp q];exact Paired.snoc r ⟨Z,d,a⟩
def KT.keeps{xs:List (List Key×Addr×Value)}(r:KT H kvs xs)(a:∀b ys,H b=some (.tup ys)->H' b=some (.tup ys)):KT H' kvs xs:=Paired.aeI r λ_ _ z=>⟨z.1,a _ _ z.2.1,z.2.2⟩
section
variable{h:Heap}
def aau{u:HO}(ok:tG P w H h)(e:Rd H a u):dU P w H h a u:=e.ok ok
def aaR{b:List (Key×V)}(ok:tG P w H h)(e:Rd H a (.dK b)):b.length<=sizeLine/\(a==sysModules)=false /\ ∃vs,KV b vs/\h.DictOf (fX P w) a vs:=
 show dU P w H h a (.dK b) from aau ok e
def Ly(ok:tG P w H h)(e:H a=some (.tup (ks.map kV))):(tupleKind (fX P w)).is h ks a:=by obtain⟨_,b,r,o,f,d,n,c⟩:=(show dU P w H h a (.tup (ks.map kV)) from ok a _ e);exact⟨o,b.toArray,n,f,d,c,by simpa using Ep r⟩
def WL(ok:tG P w H h)(e:Rd H a (.dT kvs)):kvs.length<=sizeLine/\(a==sysModules)=false /\∃xs,KT H kvs xs/\h.DictOfH (tupleKind (fX P w)) a xs:=by
 obtain⟨z,y,xs,r,o,n,s,k,j,i,g,f⟩:=(show dU P w H h a (.dT kvs) from aau ok e);refine⟨z,y,xs,r,o,n,s,k,j,i,g,λx b=>?_,f⟩
 have all:∀{l:List (List Key×V)}{m:List (List Key×Addr×Value)},KT H l m -> ∀x∈m,(tupleKind (fX P w)).is h x.1 x.2.1:=by
  intro l m q
  induction q with
  | nil=>intro x b;exact nomatch b
  | @cons p q v u c t d=>
    intro x b;rcases List.mem_cons.mp b with e|b
    .subst e
     exact Ly ok (by rw[←c.1];exact c.2.1)
    .exact d x b
 exact all r x b
def afm(ok:tG P w H h)(e:H a=some (.dT kvs)):kvs.length<=sizeLine/\(a==sysModules)=false /\∃xs,KT H kvs xs/\h.DictOfH (tupleKind (fX P w)) a xs:=WL ok (.inl e)
end
def Xn(H:Hp)(a:Addr)(y:V)(r:Option V):Prop:=(∃kvs k,Rd H a (.dK kvs)/\y=kV k/\r=gq kvs k) \/ ∃kvs k b,Rd H a (.dT kvs)/\y=.ref b/\H b=some (.tup (k.map kV))/\r=gq kvs k
def Xn.t{k:List Key}(e:H a=some (.dT kvs))(c:H b=some (.tup (k.map kV))):Xn H a (.ref b) (gq kvs k):= .inr ⟨kvs,k,b,.inl e,Z,c,Z⟩
section
variable{r:Value}{o:Option V}
def Inv.big(I:Inv X pins σ H s):sysModules<s.heap.objs.size:=by have h:mainGlobals<s.heap.objs.size:=(I.mod.glob.keeps I.bk).lt;exact Nat.lt_trans DZ h
def Z1{ob:HO}(I:Inv X pins σ H s)(c:Mut (H a))(hs:Heap.SameBut a s.heap h')(he:∃q,h'.get? a=some q)(new:dU X.prog X.w (upd H a ob) h' a ob):
 Inv X pins σ (upd H a ob) {s with heap:=h',toks:=t'}:=
 I.write (x:=a) (e:=a) c (.inl rfl) (λb q d z=>(hs.2 b d).trans z) he new
end
section
variable{kvs:List (Key×V)}{k:Key}
end
section
variable{o i:Expr}{td ty:TE}
end
def WM(h:Heap)(a:sysModules<h.objs.size):dU P w H (h.push {cls:= .type "dict",data:= .dict #[]}) h.objs.size (.dT []):=⟨Nat.zero_le _,beq_eq_false_iff_ne.mpr (Ne.symm (aa7 a)),[],.nil,_, #[],0,aar _ rfl,⟨Z,Z,Z⟩,Z,Z,List.nodup_nil⟩
def abn:TE:=λ_ H Q=>∀p,H p=none->Q (.ref p) (upd H p (.dT []))
def Vg:PE X (.Dict [] [] pos) abn:=λb s c H Q I h=>
 wpAny_Dict_empty ⟨.ref s.heap.objs.size,_,I.laid (a:=s.heap.objs.size) (o:= .dT []) (t':=s.toks) (λ_ _ q=>aaq _ q) (aav _) (WM s.heap I.big),Z,h _ (I.hok.fresh (aav _))⟩
structure M1(X:Cx)(o:Expr)(m:Str)(apos:Pos)(e:Expr)(cpos:Pos):Prop where
 base:attributeBase o m X.env (eval o X.env)=eval o X.env
 few:((backTo cpos (starEach [e] X.env)).all (λx=> !x.1)&&(backToKw cpos (keywordEach [] X.env)).all (λx=>x.1.isSome)
  && decide (([e]:List Expr).length+([]:List Keyword).length+(if ([]:List Keyword).isEmpty then 0 else 1)<30))=true
 line:(apos.endLine==cpos.line)=true
 trees:backTo cpos (starEach [e] X.env)=[(false,eval e X.env)]
structure M2(X:Cx)(o:Expr)(m:Str)(apos:Pos)(e f:Expr)(cpos:Pos):Prop where
 base:attributeBase o m X.env (eval o X.env)=eval o X.env
 few:((backTo cpos (starEach [e,f] X.env)).all (λx=> !x.1)&&(backToKw cpos (keywordEach [] X.env)).all (λx=>x.1.isSome)
  && decide (([e,f]:List Expr).length+([]:List Keyword).length+(if ([]:List Keyword).isEmpty then 0 else 1)<30))=true
 line:(apos.endLine==cpos.line)=true
 trees:backTo cpos (starEach [e,f] X.env)=[(false,eval e X.env),(false,eval f X.env)]
def IsD(H:Hp)(a:Addr):Prop:=(∃kvs,Rd H a (.dK kvs)) \/ ∃kvs,Rd H a (.dT kvs)
def V_(I:Inv X pins σ H s)(d:IsD H a):
 s.TypeIs (.ref a) "dict" /\ (∀b,Value.ref a=.ref b -> ∃ob,s.heap.get? b=some ob/\ob.dict=none)/\(a==sysModules)=false:=by
 rcases d with ⟨f,e⟩|⟨f,e⟩
 .obtain⟨_,g,k,_,c⟩:=aaR I.hok e
  refine⟨c.typeIs,λb q=>?_,g⟩;cases q;obtain⟨ob,_,_,i,h,_⟩:=c;exact⟨ob,i,h.2.1⟩
 .obtain⟨_,g,j,_,c⟩:=WL I.hok e
  refine⟨c.typeIs,λb q=>?_,g⟩;cases q;obtain⟨ob,_,_,i,h,_⟩:=c;exact⟨ob,i,h.2.1⟩
section
variable{d:V}{r:Value}{o:Option V}
def acW(t:A.units+1<cLine)(I:Inv X pins σ H s)(g:Xn H a y o)(n:RelV y u)(p:RelV d r)(h:∀m s',Inv X pins σ H s'->RelV (o.getD d) m->Q m s'):
 wpAny (model X.prog X.w) A (call (.builtin "dict.get") [.ref a,u,r]) Q E s:=by
 rcases g with ⟨f,k,e,j,l⟩|⟨f,k,b,e,j,v,l⟩
 .subst j
  obtain⟨z,i,w,rel,c⟩:=aaR I.hok e;refine call_meetsIn F.slot_dict_get c.typeIs F.entry_dict_get (F.args_dict_get_3 _ _ _) (meets_dict_get_default (fX X.prog X.w) a (aaH n) i r) ⟨_,c.mapOf,h _ _ (I.tok _) ?_⟩;rw[l];exact(rel.val k).getD p
 .subst j
  cases (show u=Value.ref b from n);obtain⟨z,i,q,rel,c⟩:=WL I.hok e;refine call_meetsIn F.slot_dict_get c.typeIs F.entry_dict_get (F.args_dict_get_3 _ _ _) (meetsH_dict_get_default (tupleKind (fX X.prog X.w)) a b i r) ⟨tupleKind_room_in1 t,k,q,Ly I.hok v,c,h _ _ (I.tok _) ?_⟩;rw[l];exact(rel.val k).getD p
end
def abo(d ty c:TE):TE:=λσ H Q=>d σ H λx H1=>∃a,x=.ref a/\IsD H1 a/\ty σ H1 λy H2=>c σ H2 λz b=>∃o,Xn b a y o/\Q (o.getD z) b
section
variable{o f:Expr}{td ty tx:TE}
def Vh(v:X.A.units+1<cLine)(w:PE X o td)(he:PE X e ty)(A:PE X f tx)(m:M2 X o "get" apos e f cpos):PE X (.Call (.Attribute o "get" apos) [e,f] [] cpos) (abo td ty tx):=by
 intro b s c H Q I h;refine wpAny_Call_method m.base m.few m.line F.plainAttrs_dict F.slot_dict_get F.type_dict_get (dM (w b s c H _ I h) λu n t=>?_);obtain⟨x,H1,j,r,a,ex,d,q1⟩:=t;subst ex;obtain rfl:u=Value.ref a:=r;obtain⟨t1,k,_⟩:=V_ j d;refine⟨t1,k,?_⟩;rw[m.trees]
 refine Calls.callWith_builtin rfl (Calls.evalArgs_plain (Calls.spliced_cons (dM (he b n c H1 _ j q1) λM l ⟨y,H2,D,q,q2⟩=>
  Calls.spliced_cons (dM (A b l c H2 _ D q2) λN K ⟨z,E,C,p,L,g,q3⟩=>Calls.spliced_nil ?_))))
 exact acW v C g q p λG J B i=>⟨_,E,B,i,q3⟩
end
section
variable{kvs:List (Key×V)}
end
end L2
namespace Att
open PySem PySem.W PySem.Calls PyProof.Rows
def yM{P:Params}{h:Heap}:∀(ns:List Int)(vs:zzt),WellAll P h vs (ns.map WData.int)->IntsAre vs ns:=by
 intro ns
 induction ns with
 | nil=>
   intro vs w;rw[List.map_nil] at w;cases w;exact .nil
 | cons n ns c=>
   intro vs w;rw[List.map_cons] at w;cases w with
   | cons a b=>
     cases a;exact .cons _ _ (c _ b)
def QD{l:OpenLaw}(t:l.most=some n){P:Params}{h:Heap}{args:List WData}{vals:zzt}(b:l.row.toRowW.claim.pre args=true)(i:WellAll P h vals args):
 ∃a vs ns,vals=[Value.ref a]/\args=[WData.list (ns.map WData.int)]/\h.get? a=some {cls:= .type "list",data:= .seq vs.toArray}/\IntsAre vs ns/\ns.length<=n:=by
 have j:WShape.hasAll [] args [.list .int]=true:=(pre_splitW b).1;have k:l.pre.holds [] {args:=args}=true:=(pre_splitW b).2;obtain⟨d,r,rfl,w,v⟩:=hasAllW_cons j;obtain rfl:=hasAllW_nil v;obtain⟨x,rfl,u⟩:=hasW_list w;obtain⟨ns,rfl⟩:=items_int u
 have c:ns.length<=n:=by
  unfold OpenLaw.pre at k
  have g:(WTm.not (.lt (.lit (.int (n:Int))) (.len (.arg 0)))).holds [] {args:=[.list (ns.map .int)]}=true:=by have g:=(holds_andW k).1;rw[t] at g;exact g
  have f:=condW_of g (w_not (w_lt w_lit (w_len_list (w_arg rfl))));rw[aak] at f;refine Nat.le_of_not_lt λq=>?_;have p:(n:Int)<((ns.length:Nat):Int):=by lia
  first
   | (rw[aaO p] at f;exact adt f DZ)
   | (simp at f;lia)
 cases i with
 | cons o m=>
   cases m;cases o with
   | list s e=>exact⟨_,_,ns,Z,Z,s,yM ns _ e,c⟩
def QK(l:OpenLaw)(args:List WData):l.row.toRowW.claim.post args (.bool true) args=true:=
 postW_of (r:=l.row.toRowW) (X:=(true==true))
  (show WShape.has [] (.bool true) .bool=true by first |rfl|decide|simp[WShape.has,WShape.arms,WShape.armsAll])
  (show (WTm.eq .res (.lit (.bool true))).value [] {args:=args,res:=some (.bool true),after:=args}=some (.bool (true==true)) from w_eq_bool (w_res rfl) w_lit) rfl
def Kg{l:OpenLaw}{d:DefRec}(v:l.most=some n)(j:d.params.defaults=[])(call:∀(w:World)(s₀ b:Shared)(mg h:zzv)(fa:Addr)(o:Obj)(pm cd doc:Value)(a:Addr)(vs:zzt)(ns:List Int),
   Ground q loose [] XP w s₀ mg h b.heap->YP w b.heap ->
   b.heap.get? fa=some o->o.data=.func (docDef d.name d.params d.body d.scope pm cd doc)->b.heap.CodeRec cd d.name->mg d.name=some (.ref fa) ->
   b.heap.get? a=some {cls:= .type "list",data:= .seq vs.toArray}->IntsAre vs ns->ns.length<=n->b.gens = #[] ->
   codeAny (model l.prog w) callerA (.call (.ref fa) ⟨[.ref a],[]⟩) (λr s'=>r=.ok (.ret (.bool true))/\OldK b.heap s'.heap/\s'.os=b.os/\AllBare s'.gens) b):
 WalkO q loose XP YP l.row.toRowW d [] (λf vs=>PySem.call f vs):=by
 intro w s₀ b mg h G Y fa o pm cd doc E kV u A k p hmg z args vals as c m s i y;obtain rfl:E=.none:=Dflts.none p j;obtain rfl:kV=.none:=Dflts.noKw p;obtain⟨a,vs,ns,rfl,rfl,e,hints,g⟩:=QD v c i;refine enter_call (codeAny_mono (call w s₀ b mg h fa o pm cd doc a vs ns G Y u (fd_plain A) k hmg e hints g z) λr s' t=>?_);obtain⟨rfl,D,C,B⟩:=t;exact⟨.inl ⟨.bool true,.bool true,[],Z,λ_=>rfl,.bool true,QK l _,λ_=>⟨List.Pairwise.nil,λ_ x=>(nomatch x)⟩⟩,D,C,B⟩
section
variable{prog:Program}{K:Frag}
def ledger(h:Heap)(L d:Addr):List (Addr×Obj):=(List.range h.objs.size).filterMap λa=>if a=L\/a=d then none else (h.get? a).map λo=>(a,o)
end
end Att
namespace L2
open PySem PySem.Spec PyProof.Rows
def Qp{vs:zzt}(h:IntsAre vs ns):Vals (ns.map V.int) vs:=by
 induction h with
 | nil=>exact .nil
 | cons n t h a=>exact .cons ⟨t,Z⟩ a
def Only(H:Hp):Prop:=∀b,H b=none \/ ∃o xs,H b=some (.JG o (.lst xs))
theorem V4{mg I:zzv}{fa:Addr}{c:Shared}{vs:zzt}(KX:K.In c.heap)(y:c.heap.Ns mainGlobals mg)(f:c.heap.Ns builtinsNs I)(L:∀x:Str,x ≠ "__name__" -> I x=bootBuiltins x)(A:c.heap.NoLimit)(hg:c.gens = #[])(E:c.heap.get? a=some {cls:= .type "list",data:= .seq vs.toArray})(hi:IntsAre vs ns)(Q:ns.length<=sizeLine)(hr:eU k callerA)(F:∀base:Heap,K.In base->base.Ns mainGlobals mg->bN P w K mg base CX k fa fd [x] sp)(i:∀(s:Shared)(u:Value),BindsTo s fd ⟨[u],[]⟩ [(x,u)])(J:∀H:Hp,Only H->bF K H a (ns.map V.int)->sp [.ref a] H (λv _=>v=.bl true) λ_ _ _=>False)(M:∀H e s',CX [] H c (λ_ _ _=>False) e s'->False):
 codeAny (model P w) callerA (.call (.ref fa) ⟨[.ref a],[]⟩) (λr s'=>r=.ok (.ret (.bool true))/\OldK c.heap s'.heap/\s'.os=c.os/\AllBare s'.gens) c:=by
 have O:=Qp hi;have l:=hi.length
 have core:∀H:Hp,Only H->bF K H a (ns.map V.int)->tG P w H c.heap->(∀b,H b≠none->b=a)->(H a≠none->K.lookup a=none) ->codeAny (model P w) callerA (.call (.ref fa) ⟨[.ref a],[]⟩) (λr s'=>r=.ok (.ret (.bool true))/\OldK c.heap s'.heap/\s'.os=c.os/\AllBare s'.gens) c:=by
  intro H R hS t S hK;have U:∀{b:Addr}{o:Obj},c.heap.get? b=some o->H b=none->(G8 c.heap H).get? b=some o:=λe n=>Wf e n
  have G:∀{b:Addr}{o:Obj}{C:Array DictEntry}{D:Nat},c.heap.get? b=some o->o.data=.dict C D->H b=none:=fun {b o C D} e d=>by
   cases q:H b with
   | none=>rfl
   | some u=>
     have N:b=a:=S b (by rw[q];simp);subst N;rw[E] at e;cases e;have d':Data.seq vs.toArray _=Data.dict C D:=d;cases d'
  have g:∀{b:Addr}{m:zzv},c.heap.Ns b m->(G8 c.heap H).Ns b m:=fun {b m} ⟨o,C,D,e,d,r⟩=>⟨o,C,D,U e (G e d),d,r⟩
  have B:K.In (G8 c.heap H):=λb o e=>U (KX b o e) (by
   cases q:H b with
   | none=>rfl
   | some u=>
     have N:b=a:=S b (by rw[q];simp);subst N;rw[hK (by rw[q];simp)] at e;cases e)
  have hM:Mod K mg (G8 c.heap H):=⟨B,g y,⟨I,g f,L⟩,let ⟨mc,h1,h2⟩:=A;⟨mc,g h1,h2⟩⟩;have e0:DN P w K mg (G8 c.heap H) callerA [] c H:=⟨Z,hM,λb o e=>Zg e,Nat.le_of_eq (Rq _ _),trivial,λb f=>adt (show b∈([]:List Addr) from f) MZ,t,.of_eq hg⟩;refine codeAny_mono ((F _ B (g y)).run callerA [] c H ⟨[.ref a],[]⟩ [.ref a] [.ref a] _ _ hr e0 (i c (.ref a)) (.cons rfl .nil) (J H R hS)) λr s' h=>?_;cases r with
  | error e=>exact(M H e s' h).elim
  | ok fl=>
    cases fl with
    | next=>exact False.elim h
    | brk=>exact False.elim h
    | cont=>exact False.elim h
    | ret u=>
      obtain⟨v,H',os,bare,un,p,X,q⟩:=h;have Y:v=.bl true:=q;subst Y;obtain rfl:u=Value.bool true:=X;refine⟨Z,OldK.of_keep λb o e=>?_,os,bare⟩;cases q:H b with
      | none=>exact un.keep b o e q (by intro z;exact adt (show b∈([]:List Addr) from z) MZ) MZ
      | some u=>
        rcases R b with z|⟨ob,xs,z⟩
        .rw[q] at z;cases z
        .have W:=un.vM b ob _ z
         obtain⟨T,_⟩:=t b _ z;obtain⟨e2,_⟩:=p b _ W;rw[e] at T;cases T;exact e2
 cases hk:K.lookup a with
 | some o=>
   have e:=KX a o hk;rw[E] at e;cases e;refine core (λ_=>none) (λ_=> .inl rfl) (.inr ⟨_,vs.toArray,_,hk,Z,Z,Z,by rw[aaX,l];exact Q,by simpa using O⟩) (λb u z=>by have j:(none:Option HO)=some u:=z;cases j) (λb z=>adt rfl z) λz=>adt rfl z
 | none=>
   refine core (λb=>if b=a then some (.JG {cls:= .type "list",data:= .seq vs.toArray} (.lst (ns.map V.int))) else none) (λb=>?_) (.inl (.inr ⟨{cls:= .type "list",data:= .seq vs.toArray},adq rfl⟩)) (λb u z=>?_) (λb z=>?_) λ_=>hk
   .by_cases f:b=a
    .exact .inr ⟨_,_,adq f⟩
    .exact .inl (adp f)
   .by_cases f:b=a
    .have j:=(adq f).symm.trans z
     cases j;subst f;exact⟨E,by rw[aak];exact Q,vs,_,O,E⟩
    .have j:=(adp f).symm.trans z
     cases j
   .by_cases f:b=a
    .exact f
    .exact adt (adp f) z
abbrev KOf{h:Heap}(_:K.In h):zzy:=K
theorem X5{l:W.OpenLaw}{d:DefRec}{K:Params->zzy}{CX:World->S5}{sp:World->Sp}(y:l.most=some n)(j:n<=sizeLine)(m:d.params.defaults=[])(t:eU k callerA)(C:∀(w:World)(h:Heap),YP w h->(K w.params).In h)(F:∀(w:World)(mg:zzv)(fa:Addr)(h:Heap),(K w.params).In h->h.Ns mainGlobals mg->mg d.name=some (.ref fa) ->∃fd:zzs,(∀(s:Shared)(u:Value),BindsTo s fd ⟨[u],[]⟩ [(x,u)]) /\∀base:Heap,(K w.params).In base->base.Ns mainGlobals mg->bN l.prog w (K w.params) mg base (CX w) k fa fd [x] (sp w))(i:∀(w:World)(H:Hp)(a:Addr)(ns:List Int),ns.length<=n->Only H->bF (K w.params) H a (ns.map V.int)->sp w [.ref a] H (λv _=>v=.bl true) λ_ _ _=>False)(p:∀(w:World)(H:Hp)(s:Shared)(e:Value)(s':Shared),CX w [] H s (λ_ _ _=>False) e s'->False):
 W.WalkO q loose XP YP l.row.toRowW d [] (λf vs=>PySem.call f vs):=by
 refine Att.Kg y m λw r c mg I fa o pm cd doc a vs ns G Y J L A hmg g hints b z=>?_;have KX:=C w _ Y;obtain⟨fd,B,hF⟩:=F w mg fa _ KX G.T.g hmg;exact V4 KX G.T.g G.T.b G.T.builtins G.T.nolimit z g hints (adl b j) t hF B (λH E D=>i w H a ns b E D) λH e s'=>p w H c e s'
def inClass(s:Stmt)(j:Nat):Stmt:=match s with
 | .ClassDef _ _ _ body _ _ _ _ _ _ _=>body.getD j (.Pass ⟨0,0,0,0⟩)
 | _=> .Pass ⟨0,0,0,0⟩
def d9(s:Stmt):Arguments:=match s with
 | .FunctionDef _ a _ _ _ _ _ _ _ _=>a
 | _=>{posonlyargs:=[],args:=[],vararg:=none,kwonlyargs:=[],kw_defaults:=[],kwarg:=none,defaults:=[]}
def gG(s:Stmt):List Stmt:=match s with
 | .FunctionDef _ _ b _ _ _ _ _ _ _=>b
 | _=>[]
def aN(s:Stmt):Scope:=match s with
 | .FunctionDef _ _ _ _ _ _ a _ _ _=>a
 | _=>{kind:= .function,names:=[],isGenerator:=false,isCoroutine:=false}
abbrev ig:S5:=λ_ _ _ _ _ _=>False
abbrev E0:XK:=λ_ _ _=>False
def Jf:Passes ig X E0:=λ_ _ _ _ _ _ _ h=>h.elim
structure fU(K:zzy)(x qual:Str)(st:Stmt)(f:Addr)(fd:zzs):Prop where
 ex:∃(oc:Value) (od:Option Addr) (kV doc pm:Value) (an:Option Addr) (cdv ct:Value) (osl:Array (Option Value)),
  fd=W.fnOf x qual (d9 st) (gG st) (aN st) .none kV doc pm an cdv ct/\K.lookup f=some ⟨oc,od,.func fd,osl⟩/\W.codeIn K cdv qual=true
 kp:W.keepIn K (.ref f)=true
section
variable{mg:zzv}
def fU.ok(F:fU K x qual st f fd)(S:aY N ps (aN st))(len:∀vs H Q E,sp vs H Q E->vs.length=ps.length)(a:∀(cdv:Value)(A:Around)(outer:List Env)(s:Shared)(H:Hp)(vs:List V)(Q:VK)(E:XK),eU k (A.deeper (envOfC qual (aN st) s.heap.objs.size f cdv))->sp vs H Q E ->∃t,Ko (qg ig P w K mg base N qual (aN st) f cdv A outer s H E).nox (gG st) t/\t {nx:=λ_ H'=>Q .non H',rt:=Q} (start N vs) H):bN P w K mg base ig (k+1) f fd ps sp:=by obtain⟨j,i,kV,doc,pm,an,cdv,l,d,rfl,e,c⟩:=F.ex;refine Wq e c S len λA outer s H vs Q E g b=>?_;obtain⟨t,h,q⟩:=a cdv A outer s H vs Q E g b;exact⟨t,h.nox,q⟩
def fU.binds(F:fU K x qual st f fd)(h:∀(kV doc pm:Value)(an:Option Addr)(cdv ct:Value)(us:zzt),us.length=ps.length->bindArgs (W.fnOf x qual (d9 st) (gG st) (aN st) .none kV doc pm an cdv ct) ⟨us,[]⟩=pure (ps.zip us)):Binds K fd ps []:=by obtain⟨d,c,kV,doc,pm,an,cdv,ct,a,rfl,e,b⟩:=F.ex;exact .all (h kV doc pm an cdv ct)
def Wn{kV:Value}(l:K.lookup f=some ⟨oc,od,.func (W.fnOf x qual (d9 st) (gG st) (aN st) .none kV doc pm an cdv ct),osl⟩)(c:W.codeIn K cdv qual=true)(k:W.keepIn K (.ref f)=true):fU K x qual st f (W.fnOf x qual (d9 st) (gG st) (aN st) .none kV doc pm an cdv ct):=⟨⟨oc,od,kV,doc,pm,an,cdv,ct,osl,Z,l,c⟩,k⟩
end
def aaK(a:eU k A):A.units+1<cLine:=Nat.lt_of_le_of_lt (Nat.add_le_add_left (by decide:1<=64) _) a.units
theorem pv(i:Nat)(d:X.N[i]?=some x:=by rfl)(b:Vis X.env.scope x:=by first |exact Or.inl rfl|exact Or.inr (Or.inl rfl)|exact Or.inr (Or.inr rfl))(c:(x==("__debug__" :Str))=false:=by decide)(a:(x==("__classdict__" :Str))=false:=by decide):PE X (.Name x pos) (d_ i):=abN d b c a
def cW{A:Prop}(h:B):if false=true then A else B:=by rw[adp aaT];exact h
def eO{A:Prop}(h:A):if true=true then A else B:=by rw[adq rfl];exact h
def cV{c A:Prop}[Decidable c](b:c->A)(a:¬c->B):if c then A else B:=by
 by_cases h:c
 .rw[adq h]
  exact b h
 .rw[adp h]
  exact a h
def vI{c A:Prop}[Decidable c](a:c)(h:B):if (!decide c)=true then A else B:=by rw[aaO a];exact cW h
def Same(H H':Hp):Prop:=∀b o,H b=some o->H' b=some o
def Same.refl(H:Hp):Same H H:=λ_ _ h=>h
def Same.trans{H1 H2:Hp}(a:Same H H1)(b:Same H1 H2):Same H H2:=λc o h=>b c o (a c o h)
def Same.free(e:Same H H'){l:Addr}(h:H' l=Option.none):H l=Option.none:=by
 cases q:H l with
 | none=>rfl
 | some o=>
   rw[e l o q] at h;cases h
def Same.seq(e:Same H H')(h:bF K H a xs):bF K H' a xs:=by
 rcases h with (h|⟨o,h⟩)|h
 .exact .inl (.inl (e _ _ h))
 .exact .inl (.inr ⟨o,e _ _ h⟩)
 .exact .inr h
section
variable{κ:Type}[DecidableEq κ]
end
end L2
set_option maxHeartbeats 4000000
namespace L2
open PySem PySem.Spec PyProof.Rows
def Ek{n:Addr}(h:a<n): @LT.lt Nat _ a n:=h
def rA(env:Env):List (Str×NameKind)->List (Str×Addr)->List (Str×Addr)
 | [],a=>a
 | (n,k)::r,a=>if k == .free then rA env r ((n,(env.cells.lookup n).getD 0)::a) else rA env r a
def Ml{a:Scope}(h:∀y∈a.names,y.2=.free->(env.cells.lookup y.1).isSome=true):closureFor a env=pure (rA env a.names []):=by
 have go:∀(d:List (Str×NameKind))(b:List (Str×Addr)),(∀y∈d,y.2=.free->(env.cells.lookup y.1).isSome=true) ->(forIn d b (λx o=>match x with |(name,kind)=>if (kind == .free)=true then do let c ←cellOf env name;pure (ForInStep.yield ((name,c)::o)) else pure (ForInStep.yield o)):Sem (List (Str×Addr)))=pure (rA env d b):=by
  intro d
  induction d with
  | nil=>intro b _;rfl
  | cons y r j=>
    intro b g;obtain⟨n,k⟩:=y;rw[List.forIn_cons]
    by_cases l:k=.free
    .subst l
     have p:=g (n,.free) List.mem_cons_self rfl;obtain⟨c,f⟩:=Option.isSome_iff_exists.mp p;have e:cellOf env n=pure c:=by unfold cellOf;rw[f]
     show _=pure (rA env r ((n,(env.cells.lookup n).getD 0)::b));rw[←j _ λy i=>g y (abz _ i)];simp only[beq_self_eq_true,if_true,e,pure_bind,f,Option.getD_some]
    .have m:(k==NameKind.free)=false:=by simpa using l
     have f:rA env ((n,k)::r) b=rA env r b:=by show (if (k==NameKind.free)=true then _ else _)=_;rw[adp (by rw[m];decide)]
     rw[f,←j _ λy i=>g y (abz _ i)];simp only[m,Bool.false_eq_true,if_false,pure_bind]
 have q:=go a.names [] h;unfold closureFor;show (forIn a.names [] _ >>= λr=>pure r)=_;rw[bind_pure];exact q
theorem jT{env:Env}:∀(ns:List (Str×NameKind))(a:List (Str×Addr))(x:Str),(∀y∈ns,y.2=.free->(env.cells.lookup y.1).isSome=true) ->(rA env ns a).lookup x=if (x,NameKind.free)∈ns then env.cells.lookup x else a.lookup x
 | [],a,x,_=>by simp[rA]
 | (n,k)::r,a,x,h=>by
   have g:∀y∈r,y.2=.free->(env.cells.lookup y.1).isSome=true:=λy b=>h y (abz _ b)
   by_cases f:k=.free
   .subst f
    show (rA env r ((n,(env.cells.lookup n).getD 0)::a)).lookup x=_;rw[jT r _ x g];obtain⟨c,d⟩:=Option.isSome_iff_exists.mp (h (n,.free) List.mem_cons_self rfl);have d:env.cells.lookup n=some c:=d
    by_cases b:(x,NameKind.free)∈r
    .rw[adq b,adq (abz _ b)]
    .rw[adp b]
     by_cases e:x=n
     .subst e
      rw[adq List.mem_cons_self,List.lookup_cons,d];simp
     .rw[adp (λz=>(List.mem_cons.mp z).elim (λq=>e (congrArg Prod.fst q)) b),List.lookup_cons]
      have:(x==n)=false:=by simpa using e
      rw[this]
   .have i:(k==NameKind.free)=false:=by simpa using f
    have d:rA env ((n,k)::r) a=rA env r a:=by show (if (k==NameKind.free)=true then _ else _)=_;rw[adp (by rw[i];decide)]
    rw[d,jT r a x g]
    have:((x,NameKind.free)∈(n,k)::r)↔(x,NameKind.free)∈r:=by
     constructor
     .intro z
      rcases List.mem_cons.mp z with q|q
      .exact adt (congrArg Prod.snd q).symm f
      .exact q
     .exact abz _
    simp only[this]
theorem lH(env:Env):∀(ns:List (Str×NameKind))(x:Str),
 (ns.map λ(n,k)=>if (k == .free&&env.scope.kind == .function&&env.kindOf n==some .cell) then (n,NameKind.cell) else (n,k)).lookup x =
   (ns.lookup x).map λk=>if (k == .free&&env.scope.kind == .function&&env.kindOf x==some .cell)=true then NameKind.cell else k
 | [],x=>rfl
 | (n,k)::r,x=>by
   show List.lookup x ((if (k==NameKind.free&&env.scope.kind == .function&&env.kindOf n==some .cell)=true then (n,NameKind.cell) else (n,k))::_)=_;cases hx:x==n with
   | true=>
     have e:x=n:=by simpa using hx
     subst e
     by_cases a:(k==NameKind.free&&env.scope.kind == .function&&env.kindOf x==some .cell)=true
     .rw[adq a];simp only[List.lookup_cons,hx,Option.map_some,adq a]
     .rw[adp a];simp only[List.lookup_cons,hx,Option.map_some,adp a]
   | false=>
     have b:=lH env r x
     by_cases a:(k==NameKind.free&&env.scope.kind == .function&&env.kindOf n==some .cell)=true
     .rw[adq a];simp only[List.lookup_cons,hx];exact b
     .rw[adp a];simp only[List.lookup_cons,hx];exact b
structure bA(N own:List Str)(caps:List Nat)(XN:List Str)(outer scope:Scope):Prop where
 kind:scope.kind=.function
 VL:∀y∈scope.names,y.2 ≠ .cell
 names:∀y∈scope.names,y.2=.local->scope.names.lookup y.1=some .local
 free:∀y∈scope.names,y.2=.free->outer.names.lookup y.1=some .cell\/outer.names.lookup y.1=some .free
 nd:N.Nodup
 len:N.length=own.length+caps.length
 cap:∀(j:Nat),j<caps.length->N[own.length+j]?=XN[caps.getD j 0]? /\ ∃x,N[own.length+j]?=some x/\(x,NameKind.free)∈scope.names/\scope.names.lookup x=some .free
def st0(own:List Str)(caps:List Nat)(a:St):St:=own.map (λ_=>none)++caps.map (λi=>(a[i]?).join)
def gD(X:Cx)(a:Scope)(C:Addr)(N:List Str)(s:Shared)(H:Hp)(b:List Addr):Cx:={X with N:=N,s₀:=s,H₀:=H,env:=compEnvC a (rA X.env a.names []) C X.env,outer:=X.stack,ex:=b,fn:=λ_=>false,pn:=[],xe:=λ_ _=>False}
section
variable{scope:Scope}{C:Nat}
def bA.WY(S:bA N own caps X.N X.env.scope scope)(ok:X.Ok):∀y∈scope.names,y.2=.free->(X.env.cells.lookup y.1).isSome=true:=λy a b=>by obtain⟨c,e⟩:=ok.has y.1 (S.free y a b);rw[e];rfl
def bA.csub(S:bA N own caps X.N X.env.scope scope)(ok:X.Ok){c:Addr}(h:(rA X.env scope.names []).lookup x=some c):X.env.cells.lookup x=some c:=by
 rw[jT _ _ _ (S.WY ok)] at h;split at h
 .exact h
 .simp at h
def bA.V2{S:bA N own caps X.N X.env.scope scope}(h:(relabel scope X.env).names.lookup x=some .cell\/(relabel scope X.env).names.lookup x=some .free):(x,NameKind.free)∈scope.names:=by
 have e:=lH X.env scope.names x;have d:(relabel scope X.env).names.lookup x=(scope.names.lookup x).map λk=>if (k == .free&&X.env.scope.kind == .function&&X.env.kindOf x==some .cell)=true then NameKind.cell else k:=e;rw[d] at h;cases q:scope.names.lookup x with
 | none=>rw[q] at h;simp at h
 | some k=>
   have b:=PySem.mem_of_lookup q
   by_cases a:k=.free
   .subst a;exact b
   .rw[q] at h
    have c:(k==NameKind.free)=false:=by simpa using a
    simp only[Option.map_some,c,Bool.false_and,Bool.false_eq_true,if_false] at h;rcases h with h|h
    .exact adt (aaY h) (S.VL _ b)
    .exact adt (aaY h) a
theorem Inv.comp{D:Nat}(I:Inv X pins σ H s)(S:bA N own caps X.N X.env.scope scope)(g:∀b∈fp,nR X pins H b)(G:∀b∈fp,∃o,s.heap.get? b=some o)(hD:D=s.heap.objs.size)(hC:C=s.heap.objs.size+1)(old:∀b o,s.heap.get? b=some o->h1.get? b=some o)(B:h1.Ns C (λ_=>none))(W:h1.get? D=some {cls:= .type "list",data:= .seq #[]}){t:Nat}:
 Inv (gD X scope C N s H fp) [] (st0 own caps σ) (upd H D (.lst [])) {s with heap:=h1,toks:=t}:=by
 have d:=S.WY I.ok;have sub:∀{x c},(rA X.env scope.names []).lookup x=some c->X.env.cells.lookup x=some c:=λh=>S.csub I.ok h;have freshD:H D=none:=I.hok.fresh (by rw[hD];exact aav _);have P:H C=none:=I.hok.fresh (by rw[hC];exact Nat.le_succ _)
 have O:∀x c,X.env.cells.lookup x=some c->c<s.heap.objs.size:=λx c e=>by obtain⟨v,z⟩:=I.cell x c e;exact z.lt
 have L:∀b∈fp,b<s.heap.objs.size:=λb i=>by obtain⟨o,e⟩:=G b i;exact aas e
 have DC:D≠C:=by lia
 refine⟨⟨I.ok.mod,S.kind,I.ok.glob,I.ok.blt,by show s.heap.objs.size<=C;lia,λx y c w f=>I.ok.inj x y c (sub w) (sub f),λx h=>?_,λx c h=>(by cases h),I.ok.hd,I.ok.frames,Or.inl rfl,λb i=>⟨?_,λx c e=>?_⟩,I.bs,adl I.ok.Mz I.sz,λb o e i=>?_,λb i z=>?_,I.stack,I.FN⟩,
  Z,I.bare,Un.laid old (by show s.heap.objs.size<=D;lia) freshD,⟨_,B,λj x v w f e3=>?_⟩,λx c e=>?_,?_,λx c e=>?_,λp V=>?_,I.hok.laid old LZ ?_,?_⟩
 .have R:=bA.V2 (S:=S) (X:=X) h
  obtain⟨c,e⟩:=Option.isSome_iff_exists.mp (d _ R rfl);exact⟨c,by show (rA X.env scope.names []).lookup x=_;rw[jT _ _ _ d,adq R];exact e⟩
 .exact aa7 (show @LT.lt Nat _ b C by have:=Ek (L b i);lia)
 .exact(g b i).2.2.2.2.1 x c (sub e)
 .rcases(g b i).2.2.2.1 with z|z
  .exact I.ok.GJ b o e z
  .exact adt (aa_ (aas e) (adl I.ok.Mz z)) (adk _)
 .rcases List.mem_cons.mp (I.Aa b z) with q|q
  .exact(g b i).2.1 q
  .exact(g b i).2.2.1 q
 .have w:N[j]?=some x:=w
  have hj:own.length<=j:=by
   by_cases q:own.length<=j
   .exact q
   .exfalso
    unfold st0 at f;rw[aa6 (by simp;lia),aap] at f;cases r:own[j]? with
    | none=>rw[r] at f;cases f
    | some a=>rw[r] at f;cases f
  have a0:j<N.length:=(aam.mp w).1;have F:j-own.length<caps.length:=by have:=S.len;lia
  obtain⟨U,x',K,T,c4⟩:=S.cap (j-own.length) F;rw[show own.length+(j-own.length)=j by lia] at U K;rw[w] at K;cases K
  have n:(σ[caps.getD (j-own.length) 0]?).join=some v:=by
   unfold st0 at f;rw[aa5 (by simp;lia),aap,aak] at f;rw[List.getD_eq_getElem?_getD];cases r:caps[j-own.length]? with
   | none=>rw[r] at f;cases f
   | some a=>rw[r] at f;exact aaY f
  have M:σ[caps.getD (j-own.length) 0]?=some (some v):=by
   cases r:σ[caps.getD (j-own.length) 0]? with
   | none=>rw[r] at n;cases n
   | some a=>rw[r] at n;exact congrArg Option.some n
  have Q:X.env.kindOf x=some .cell\/X.env.kindOf x=some .free:=S.free _ T rfl;obtain⟨m,hn,E⟩:=I.loc;obtain⟨u,r,l⟩:=E _ x v (by rw[←U];exact w) M (by rcases Q with z|z;exact .inr (.inl z);exact .inr (.inr z));refine⟨u,r,.inr ⟨?_,?_⟩⟩
  .show (relabel scope X.env).names.lookup x=some .cell\/(relabel scope X.env).names.lookup x=some .free
   have e:(relabel scope X.env).names.lookup x=(scope.names.lookup x).map λk=>if (k == .free&&X.env.scope.kind == .function&&X.env.kindOf x==some .cell)=true then NameKind.cell else k:=lH X.env scope.names x;rw[e,c4,Option.map_some];split
   .exact .inl rfl
   .exact .inr rfl
  .rcases l with ⟨Y,_⟩|⟨_,c,hc,z⟩
   .rcases Q with q|q<;>rw[Y] at q<;>cases q
   .refine⟨c,?_,?_⟩
    .show (rA X.env scope.names []).lookup x=_
     rw[jT _ _ _ d,adq T];exact hc
    .obtain⟨o,A,J⟩:=z
     exact⟨o,old c o A,J⟩
 .obtain⟨v,o,A,J⟩:=I.cell x c (sub e)
  exact⟨v,o,old c o A,J⟩
 .show upd H D (.lst []) C=none
  rw[aF DC.symm];exact P
 .show upd H D (.lst []) c=none
  rw[aF (aa7 (by have:=Ek (O x c (sub e));lia))];exact I.jr x c (sub e)
 .cases V
 .exact⟨Nat.zero_le _,[],0,.nil,W⟩
 .show (own.map (λ_=>none)++caps.map _).length=N.length
  rw[aa1,aak,aak,S.len]
def Inv.Tq{h:St}(I:Inv X pins σ H s)(d:∀b∈fp,nR X pins H b)(l:s.heap.objs.size<=C)(J:Inv (gD X scope C N s H fp) pY h H' s')(hs:Heap.SameBut C s'.heap h'):
 Inv X pins σ H' {s' with heap:=h'}:=by
 have i:∀b o,s.heap.get? b=some o->b≠C:=λb o e=>aa7 (by have:=Ek (aas e);lia);have u:=J.base;have g:H' C=none:=J.free;refine I.call' (ch:=fp) (s':={s' with heap:=h'}) J.os ⟨λb o e n c f=>?_,λb o e n c f=>?_,u.free,λb o e f=>?_,u.tups,u.vM,u.wI⟩ (λa o e=>(J.hok a o e).stay (λb v c q=>?_) (λ_ q=>q) λ_ _ q=>q) J.bare λb c=>?_
 .exact(hs.2 b (i b o e)).trans (u.keep b o e n c f)
 .obtain⟨j,q⟩:=u.slot b o e n c f
  exact⟨j,(hs.2 b (i b o e)).trans q⟩
 .obtain⟨k,q⟩:=u.there b o e f
  exact⟨k,(hs.2 b (i b o e)).trans q⟩
 .refine(hs.2 b ?_).trans q
  intro z;subst z;rcases c with z|z
  .subst z;rw[g] at e;cases e
  .rw[g] at z;cases z
 .exact⟨(d b c).2.2.2.1,(d b c).2.1,(d b c).2.2.2.2.1,(d b c).2.2.2.2.2⟩
end
section
variable{prog:Program}{R:Result->Shared->Prop}
theorem Hv{elt target:Expr}{a:Scope}{it d:Value}(I:Nat->Shared->Prop)(turn:∀n s,I n s->wpAny (model prog w) A (pyNext it) (λr g=>match r with
   | none=>R (.ok .next) g
   | some v=>wpAny (model prog w) A (letOwnedTupleGo target it v) (λ_ e=>wpAny (model prog w) A (assign target env v) (λ_ l=>
      wpAny (model prog w) A (forIn ifs true λc r=>if r=true then do let ok ←isTrue c env (eval c env);pure (ForInStep.yield ok) else pure (ForInStep.yield r)) (λok f=>
       if ok=true then wpAny (model prog w) A (eval elt env) (λx k=>
        wpAny (model prog w) A (call (.builtin "list.append") [d,x]) (λ_ j=>∃m,m<n/\I m j) (λ_ _=>False) k) (λ_ _=>False) f
       else ∃m,m<n/\I m f) (λ_ _=>False) l) (λ_ _=>False) e) (λ_ _=>False) g) (λ_ _=>False) s)(n:Nat)(h:I n s):
 codeAny (model prog w) A (.compLoop (.ListComp elt [⟨target,iter,ifs,0⟩] a pos) 0 it d env) R s:=by
 refine codeAny_loop rfl I (λn s q=>?_) n h;show wpAny _ A ((compTurn (.ListComp elt [⟨target,iter,ifs,0⟩] a pos) 0 it d env).onRaise (λx=>do noteFrame x env;theTreesLotGoes x)) _ _ s;refine wpAny_noted ?_;rw[compTurn_list];refine aaB (wpAny_standAt (aaB (wpAny_mono (turn n s q) (λr g p=>?_) λ_ _ b=>b.elim)));cases r with
 | none=>exact aaD p
 | some v=>
   refine aaB (wpAny_mono p (λ_ e i=>?_) λ_ _ b=>b.elim);refine aaB (wpAny_mono i (λ_ l y=>aaB (wpAny_mono y (λok f o=>?_) λ_ _ b=>b.elim)) λ_ _ b=>b.elim);cases ok with
   | false=>exact aaD ⟨Z,o⟩
   | true=>
     exact aaB (aaB (wpAny_mono o (λx k u=>aaB (wpAny_mono u (λ_ j t=>aaD (aaD ⟨Z,t⟩)) λ_ _ b=>b.elim)) λ_ _ b=>b.elim))
end
def PTs(X:Cx)(ifs:List Expr)(t:TT):Prop:=
 ∀(pins:zzw)(s:Shared)(σ:St)(H:Hp)(Q:Bool->Hp->Prop),Inv X pins σ H s->t σ H Q ->wpAny (model X.prog X.w) X.A (forIn ifs true λc r=>if r=true then do let ok ←isTrue c X.env (eval c X.env);pure (ForInStep.yield ok) else pure (ForInStep.yield r)) (TP X pins σ Q) X.xe s
def uO:TT:=λ_ H Q=>Q true H
def cO:PTs X [] uO:=λ_ _ _ H _ I h=>wpAny_tests_nil ⟨H,I,h⟩
def vq{t:TT}(h:PT X c t):PTs X [c] t:=λa s b H Q I q=>wpAny_tests_one (h a s b H Q I q)
def iu(J:It)(g:TG)(l:TT)(k:TE)(Q:VK)(D:Addr)(e:St)(H1:Hp):Prop:=
 ∃W:Nat->Nat->St->Hp->Prop,(∃m,W 0 m e (upd H1 D (.lst []))) /\ ∀i m σ H,W i m σ H ->(J.stop i H/\Q (.ref D) H)\/(J.go i H /\ ∃N:St->Hp->Prop,(∀d H',N d H' -> ∃f,f<m/\W (i+1) f d H') /\ ∀x H',J.yld i H x H'->g x σ H' λa H2=>l a H2 λb j=>
    if b=true then k a j λy h=>∃c,h D=some (.lst c)/\c.length<sizeLine/\N a (upd h D (.lst (c++[y]))) else N a j)
def Ud(own:List Str)(caps:List Nat)(a:TI)(g:TG)(c:TT)(b:TE):TE:=λσ H Q=>a σ H λJ H1=>∀D,H1 D=none->iu J g c b Q D (st0 own caps σ) H1
section
variable{elt:Expr}{scope:Scope}
theorem JW{use:Option (Value->Sem Unit)}{Qv:zzx}{Q:VK}(hc:X.calm=true)(S:bA N own caps X.N X.env.scope scope)(hg:∀C s H fp,PG (gD X scope C N s H fp) tg g)(a4:∀C s H fp,PTs (gD X scope C N s H fp) ifs tc)(he:∀C s H fp,PE (gD X scope C N s H fp) elt te)(hi:PI X tg iter wi)(hs:∀x,foldedSetIterable iter X.env x=pure x)(I:Inv X pins σ H s)(h:Ud own caps wi g tc te σ H Q)(fin:∀(D C:Addr)(H':Hp)(s':Shared),(∃m,s'.heap.Ns C m)->Inv X pins σ H' s'->(∀h',Heap.SameBut C s'.heap h'->Inv X pins σ H' {s' with heap:=h'})->nR X pins H' C->Q (.ref D) H' ->compPost (model X.prog X.w) X.A X.xe use Qv (.ref D) C (.ok .next) s'):
 wpAny (model X.prog X.w) X.A (comprehension (.ListComp elt [⟨tg,iter,ifs,0⟩] scope pos) scope X.env (firstIterPos [⟨tg,iter,ifs,0⟩] pos) (newList []) false (eval iter X.env) use) Qv X.xe s:=by
 refine wpAny_comprehension_free (use:=use) rfl hs (Ml (S.WY I.ok)) S.kind S.names (dM (hi pins s σ H _ I h) λxv s1 Y=>dM Y λa9 a h2=>?_);obtain⟨it,fp,tn,J,H2,e,L,T,E,K,q2⟩:=h2;subst e;refine wpAny_newList ?_;refine wpAny_newFunctionEnv S.VL (by intro y hy;simp at hy) (λY a1 l=>?_) S.kind;dsimp only at a1 l ⊢;have hD:H2 a.heap.objs.size=none:=L.hok.fresh (aav _);have F:(a.heap.push {cls:= .type "list",data:= .seq ([]:zzt).toArray}).objs.size=a.heap.objs.size+1:=Heap.size_push ..
 have old:∀b o,a.heap.get? b=some o->Y.get? b=some o:=λb o e=>by refine l.extBut b o (aa7 (by have:=Ek (aas e);rw[F];lia)) (aaq _ (aaq _ e))
 have hl:Y.get? a.heap.objs.size=some {cls:= .type "list",data:= .seq #[]}:=l.extBut _ _ (aa7 (by rw[F];lia)) (aaq _ (aar _ rfl))
 have G:∀b∈fp,∃o,a.heap.get? b=some o:=λb f=>let ⟨o,e,_⟩:=T.obj _ _ E b f;⟨o,e⟩
 have I4:=Inv.comp (C:=(a.heap.push {cls:= .type "list",data:= .seq ([]:zzt).toArray}).objs.size) (t:=a.toks+([]:List (Str×Value)).length) L S K G rfl F old a1 hl;obtain⟨W,⟨m0,w0⟩,turn⟩:=q2 _ hD;generalize b3:(a.heap.push {cls:= .type "list",data:= .seq ([]:zzt).toArray}).objs.size=C at *;generalize b1:a.heap.objs.size=D at *;have b2:D≠C:=by lia
 have loop:∀O:Shared,O={a with heap:=Y,toks:=a.toks+([]:List (Str×Value)).length} ->codeAny (model X.prog X.w) X.A (.compLoop (.ListComp elt [⟨tg,iter,ifs,0⟩] scope pos) 0 (.ref it) (.ref D) (gD X scope C N a H2 fp).env) (compPost (model X.prog X.w) X.A X.xe use Qv (.ref D) C) O:=by
  rintro O rfl
  have JG:∀b∈fp,(upd H2 D (.lst [])) b=none:=λb f=>by obtain⟨o,e⟩:=G b f;rw[aF (aa7 (by have:=Ek (aas e);lia))];exact(K b f).1
  have k:∀{H':Hp},(∀b∈fp,H' b=none) -> ∀b∈fp,nR (gD X scope C N a H2 fp) [] H' b:=λhn b f=>by
   obtain⟨o,e⟩:=G b f;have b0:=Ek (aas e);refine⟨hn b f,?_,λz=>?_,.inl f,λx c e'=>(K b f).2.2.2.2.1 x c (S.csub L.ok e'),λp hp=>(by cases hp)⟩
   .exact aa7 (show @LT.lt Nat _ b C by lia)
   .rcases List.mem_cons.mp (L.Aa b z) with q|q
    .exact(K b f).2.1 q
    .exact(K b f).2.2.1 q
  refine Hv (λn s'=>∃i j H',Inv (gD X scope C N a H2 fp) [] j H' s'/\tn i s'.heap/\(∀b∈fp,H' b=none)/\W i n j H') ?_ m0
   ⟨0,_,_,I4,T.keep _ _ _ E λb _ o e=>old b o e,JG,w0⟩
  rintro n O ⟨i,B,H3,I3,R,a0,w3⟩;rcases turn i n B H3 w3 with ⟨stop,qn⟩|⟨go,Nx,a5,step⟩
  .refine dM (T.done (gD X scope C N a H2 fp) rfl rfl rfl hc i [] O B H3 _ I3 (k a0) R stop) λr s4 ⟨hr,J4⟩=>?_
   subst hr;obtain⟨m4,a3,_⟩:=J4.loc;exact fin D C H3 s4 ⟨m4,a3⟩ (L.Tq K LZ J4 (Heap.SameBut.refl _ _)) (λh' a2=>L.Tq K LZ J4 a2) (L.vN (show a.heap.objs.size<=C by lia) J4.free) qn
  .refine dM (T.item (gD X scope C N a H2 fp) rfl rfl rfl hc i [] O B H3 _ I3 (k a0) R go) λr s4 ⟨u,hr,h4⟩=>?_
   subst hr;refine dM h4 λ_ s5 U=>?_;obtain⟨x,H5,I5,r5,y5,Yj,a6⟩:=U;have a8:=I5.pinned (k a6) (T.obj _ _ Yj);refine dM (hg C a H2 fp _ s5 B H5 x u _ a8 r5 (step x H5 y5)) λ_ s6 U=>?_;obtain⟨A,H6,I6,q6⟩:=U;refine dM (a4 C a H2 fp _ s6 A H6 _ I6 q6) λok s7 ⟨H7,I7,q7⟩=>?_
   have again:∀{w:St}{P:Hp}{M:Shared},Inv (gD X scope C N a H2 fp) ([]++Bm fp s5.heap) w P M->Nx w P -> ∃m,m<n /\ ∃i j H',Inv (gD X scope C N a H2 fp) [] j H' M/\tn i M.heap/\(∀b∈fp,H' b=none)/\W i m j H':=fun {w P M} I8 n8=>by obtain⟨m',hm,w8⟩:=a5 _ _ n8;refine⟨m',hm,i+1,w,P,I8.uN,T.keep _ _ _ Yj λb f o e=>(I8.pin (b,o) (List.mem_append_right _ (List.mem_append_right _ (pK f e)))).1,λb f=>?_,w8⟩;obtain⟨o,e,d⟩:=T.obj _ _ Yj b f;exact(I8.pin (b,o) (List.mem_append_right _ (List.mem_append_right _ (pK f e)))).2.1
   cases ok with
   | false=>
     rw[adp DZ] at q7;exact again I7 q7
   | true=>
     rw[adq rfl] at q7;refine dM (he C a H2 fp _ s7 A H7 _ I7 q7) λy M U=>?_;obtain⟨yv,P,I8,r8,a7,ha,V,q8⟩:=U;exact dM (Em _ M A P (.ref D) [yv] (.ref D) [y] (λv H9=>Nx A H9) I8 rfl (.cons r8 .nil) ⟨D,a7,yv,Z,Z,ha,V,q8⟩) λ_ s9 ⟨_,H9,I9,_,q9⟩=>again I9 q9
 exact codeAny_compStart_list (loop _ rfl) (T.self _ 0 _ _ _ (T.keep _ _ _ E λb _ o e=>old b o e) (loop _ rfl))
def dB(i:X.calm=true)(S:bA N own caps X.N X.env.scope scope)(hi:PI X tg iter wi)(f:∀C s H fp,PG (gD X scope C N s H fp) tg g)(c:∀C s H fp,PTs (gD X scope C N s H fp) ifs tc)(he:∀C s H fp,PE (gD X scope C N s H fp) elt te)(hs:∀x,foldedSetIterable iter X.env x=pure x:=by intro _;rfl):PE X (.ListComp elt [⟨tg,iter,ifs,0⟩] scope pos) (Ud own caps wi g tc te):=by intro d s l H Q I h;rw[eval_ListComp];refine JW (use:=none) i S f c he hi hs I h ?_;intro D C k n b o e _ q;obtain⟨m,b⟩:=b;exact⟨m,b,λj a=>⟨.ref D,k,e j a,Z,q⟩⟩
theorem mL{c sp:Pos}(P:X.calm=true)(R:X.N.Nodup)(G:X.N[i]?=some x)(L:Loc X.env.scope x)(S:bA N own caps X.N X.env.scope scope)(hi:PI X tg iter wi)(M:∀C s H fp,PG (gD X scope C N s H fp) tg g)(t:∀C s H fp,PTs (gD X scope C N s H fp) ifs tc)(he:∀C s H fp,PE (gD X scope C N s H fp) elt te)(l:swapsWith (.ListComp elt [⟨tg,iter,ifs,0⟩] scope pos) (some (.Name x c)) sp.line X.env=pure true:=by rfl)(hs:∀x,foldedSetIterable iter X.env x=pure x:=by intro _;rfl)(O:X.fn x=true\/X.env.scope.names.lookup x=some .local:=by first |exact .inl rfl|exact .inr rfl|assumption):
 PS X (.Assign [.Name x c] (.ListComp elt [⟨tg,iter,ifs,0⟩] scope pos) sp) (Yg (Ud own caps wi g tc te) (bV i)):=by
 intro d s σ H D I h;rw[exec_Assign_Name_used _ _ _ _ l];refine aaB (wpAny_standAt (aaB ?_));show wpAny _ X.A (do let _ ←comprehension (.ListComp elt [⟨tg,iter,ifs,0⟩] scope pos) scope X.env (firstIterPos [⟨tg,iter,ifs,0⟩] pos) (newList []) false (eval iter X.env) (some (assign (.Name x c) X.env))) _ _ s;refine aaB (wpAny_mono (JW (use:=some (assign (.Name x c) X.env)) (Qv:=λ_ f=>SP X d D .next f) P S M t he hi hs I h ?_) (λ_ f J=>aaD (aaD J)) λ_ _ e=>e);intro E C H' f p I' hk T q;obtain⟨m,p⟩:=p;obtain⟨W,y,f2,V,w,U⟩:=T;show wpAny _ X.A (assign (.Name x c) X.env (.ref E)) _ _ _;refine wpAny_assign_Name (D_ I' R G L (v:= .ref E) rfl (λA I2 k=>?_) O);refine⟨m,?_,λh' n=>?_⟩
 .obtain⟨o,Y,ep,K,r⟩:=p
  obtain⟨a,B,F⟩:=k
  have u:C≠a:=λz=>by
   rcases F with j|j
   .exact y (z.trans j)
   .exact w x a j z.symm
  exact⟨o,Y,ep,(B.2 C u).trans K,r⟩
 .exact⟨_,H',I2.turned (t':=A.toks) (λb o Q e=>(n.2 b Q).trans e) W y V w U,q⟩
end
def W4(N own:List Str)(caps:List Nat)(b:List Str)(outer a:Scope):Bool:=
 decide (a.kind=.function)&&a.names.all (λy=>decide (y.2 ≠ .cell))&&a.names.all (λy=>decide (y.2 ≠ .local)||decide (a.names.lookup y.1=some .local)) &&
 a.names.all (λy=>decide (y.2 ≠ .free)||decide (outer.names.lookup y.1=some .cell)||decide (outer.names.lookup y.1=some .free))&&decide N.Nodup&&decide (N.length=own.length+caps.length) &&
 (List.range caps.length).all (λj=>match N[own.length+j]? with |some x=>decide (b[caps.getD j 0]?=some x)&&decide ((x,NameKind.free)∈a.names)&&decide (a.names.lookup x=some .free)|none=>false)
def bA.of{outer a:Scope}(h:W4 N own caps XN outer a=true):bA N own caps XN outer a:=by
 unfold W4 at h;simp only[abt,decide_eq_true_eq,List.all_eq_true,Bool.or_eq_true] at h;obtain⟨⟨⟨⟨⟨⟨m,l⟩,k⟩,i⟩,g⟩,f⟩,d⟩:=h;refine⟨m,l,λy b e=>?_,λy b e=>?_,g,f,λj c=>?_⟩
 .rcases k y b with z|z
  .exact adt e z
  .exact z
 .rcases i y b with (z|z)|z
  .exact adt e z
  .exact .inl z
  .exact .inr z
 .have q:=d j (acS.mpr c)
  cases e:N[own.length+j]? with
  | none=>rw[e] at q;cases q
  | some x=>
    rw[e] at q;simp only[abt,decide_eq_true_eq] at q;exact⟨q.1.1.symm,x,Z,q.1.2,q.2⟩
mutual
noncomputable def Dat(H:Hp):V->PyData->Prop
 | v,.none=>v=.non
 | v,.bool b=>v=.bl b
 | v,.int i=>v=.int i
 | v,.str x=>v=.str x
 | v,.list ds=>∃a vs,v=.ref a/\H a=some (.lst vs)/\aV H vs ds
 | v,.tuple ds=>∃a vs,v=.ref a/\H a=some (.tup vs)/\aV H vs ds
 | _,.dict _=>False
noncomputable def aV(H:Hp):List V->List PyData->Prop
 | [],[]=>True
 | v::vs,d::ds=>Dat H v d/\aV H vs ds
 | [],_::_=>False
 | _::_,[]=>False
end
theorem aV.length:∀{vs:List V}{ds:List PyData},aV H vs ds->vs.length=ds.length
 | [],[],_=>rfl
 | _::_,_::_,h=>by simp only[aV] at h;simp[aV.length h.2]
 | [],_::_,h=>by simp only[aV] at h
 | _::_,[],h=>by simp only[aV] at h
theorem aV.get:∀{vs:List V}{ds:List PyData}{i:Nat}{v:V},aV H vs ds->vs[i]?=some v -> ∃d,ds[i]?=some d/\Dat H v d
 | _::_,_::_,0,_,h,e=>by simp only[aV] at h;simp at e;subst e;exact⟨_,Z,h.1⟩
 | _::_,_::_,i+1,_,h,e=>by simp only[aV] at h;simp at e;obtain⟨d,q,r⟩:=aV.get h.2 e;exact⟨d,by simpa using q,r⟩
 | [],[],_,_,_,e=>by simp at e
 | [],_::_,_,_,h,_=>by simp only[aV] at h
 | _::_,[],_,_,h,_=>by simp only[aV] at h
theorem aV.getD:∀{vs:List V}{ds:List PyData}{i:Nat}{d:PyData},aV H vs ds->ds[i]?=some d -> ∃v,vs[i]?=some v/\Dat H v d
 | _::_,_::_,0,_,h,e=>by simp only[aV] at h;simp at e;subst e;exact⟨_,Z,h.1⟩
 | _::_,_::_,i+1,_,h,e=>by simp only[aV] at h;simp at e;obtain⟨d,q,r⟩:=aV.getD h.2 e;exact⟨d,by simpa using q,r⟩
 | [],[],_,_,_,e=>by simp at e
 | [],_::_,_,_,h,_=>by simp only[aV] at h
 | _::_,[],_,_,h,_=>by simp only[aV] at h
theorem aV.append:∀{vs ws:List V}{ds es:List PyData},aV H vs ds->aV H ws es->aV H (vs++ws) (ds++es)
 | [],_,[],_,_,g=>g
 | _::_,_,_::_,_,h,g=>by simp only[aV,List.cons_append] at h ⊢;exact⟨h.1,aV.append h.2 g⟩
 | [],_,_::_,_,h,_=>by simp only[aV] at h
 | _::_,_,[],_,h,_=>by simp only[aV] at h
def aV.ints(ns:List Int):aV H (ns.map V.int) (ns.map PyData.int):=by
 induction ns with
 | nil=>simp only[List.map_nil,aV]
 | cons n r a=>simp only[List.map_cons,aV,Dat];exact⟨trivial,a⟩
mutual
theorem Dat.mono(c:∀a xs,H a=some (HO.lst xs)->H' a=some (HO.lst xs))(b:∀a xs,H a=some (HO.tup xs)->H' a=some (HO.tup xs)):∀(d:PyData){v:V},Dat H v d->Dat H' v d
 | .none,_,h=>by simp only[Dat] at h ⊢;exact h
 | .bool _,_,h=>by simp only[Dat] at h ⊢;exact h
 | .int _,_,h=>by simp only[Dat] at h ⊢;exact h
 | .str _,_,h=>by simp only[Dat] at h ⊢;exact h
 | .list ds,_,h=>by simp only[Dat] at h ⊢;obtain⟨a,vs,e,q,r⟩:=h;exact⟨a,vs,e,c _ _ q,aV.mono c b ds r⟩
 | .tuple ds,_,h=>by simp only[Dat] at h ⊢;obtain⟨a,vs,e,q,r⟩:=h;exact⟨a,vs,e,b _ _ q,aV.mono c b ds r⟩
 | .dict _,_,h=>by simp only[Dat] at h
theorem aV.mono(c:∀a xs,H a=some (HO.lst xs)->H' a=some (HO.lst xs))(b:∀a xs,H a=some (HO.tup xs)->H' a=some (HO.tup xs)):∀(ds:List PyData){vs:List V},aV H vs ds->aV H' vs ds
 | [],[],_=>by simp only[aV]
 | d::ds,v::vs,h=>by simp only[aV] at h ⊢;exact⟨Dat.mono c b d h.1,aV.mono c b ds h.2⟩
 | _::_,[],h=>by simp only[aV] at h
 | [],_::_,h=>by simp only[aV] at h
end
mutual
noncomputable def CV:PyData->Bool
 | .tuple ds=>qX ds
 | .list _ | .dict _=>false
 | .none | .bool _ | .int _ | .str _=>true
noncomputable def qX:List PyData->Bool
 | []=>true
 | d::ds=>CV d&&qX ds
end
mutual
theorem Dat.keep(b:∀a xs,H a=some (HO.tup xs)->H' a=some (HO.tup xs)):∀(d:PyData){v:V},CV d=true->Dat H v d->Dat H' v d
 | .none,_,_,h=>by simp only[Dat] at h ⊢;exact h
 | .bool _,_,_,h=>by simp only[Dat] at h ⊢;exact h
 | .int _,_,_,h=>by simp only[Dat] at h ⊢;exact h
 | .str _,_,_,h=>by simp only[Dat] at h ⊢;exact h
 | .list ds,_,i,h=>by simp only[CV] at i;cases i
 | .tuple ds,_,i,h=>by simp only[Dat] at h ⊢;simp only[CV] at i;obtain⟨a,vs,e,q,r⟩:=h;exact⟨a,vs,e,b _ _ q,aV.keep b ds i r⟩
 | .dict _,_,_,h=>by simp only[Dat] at h
theorem aV.keep(b:∀a xs,H a=some (HO.tup xs)->H' a=some (HO.tup xs)):∀(ds:List PyData){vs:List V},qX ds=true->aV H vs ds->aV H' vs ds
 | [],[],_,_=>by simp only[aV]
 | d::ds,v::vs,i,h=>by simp only[aV] at h ⊢;simp only[qX,abt] at i;exact⟨Dat.keep b d i.1 h.1,aV.keep b ds i.2 h.2⟩
 | _::_,[],_,h=>by simp only[aV] at h
 | [],_::_,_,h=>by simp only[aV] at h
end
theorem cI{α:Type}(f:α->PyData)(h:∀x,CV (f x)=true):∀l:List α,qX (l.map f)=true
 | []=>rfl
 | a::l=>by simp only[List.map_cons,qX,h a,cI f h l,Bool.and_self]
mutual
theorem Inv.reads(I:Inv X pins σ H s):∀(d:PyData){v:V}{u:Value},Dat H v d->RelV v u -> ∃as,Reads s.heap u d as
 | .none,v,u,h,r=>by simp only[Dat] at h;subst h;cases (show u=Value.none from r);exact⟨_,.none⟩
 | .bool b,v,u,h,r=>by simp only[Dat] at h;subst h;cases (show u=Value.bool b from r);exact⟨_,.bool b⟩
 | .int i,v,u,h,r=>by simp only[Dat] at h;subst h;obtain⟨t,q⟩:=(show ∃t,u=Value.int i t from r);cases q;exact⟨_,.int i t⟩
 | .str x,v,u,h,r=>by simp only[Dat] at h;subst h;obtain⟨t,q⟩:=(show ∃t,u=Value.str x t from r);cases q;exact⟨_,.str x t⟩
 | .list m,v,u,h,r=>by simp only[Dat] at h;obtain⟨a,w,rfl,q,g⟩:=h;cases (show u=Value.ref a from r);obtain⟨f,c,p,y⟩:=I.list (bF.of q);obtain⟨o,j,l,n,k⟩:=p.isList;obtain⟨as,e⟩:=Inv.readsAll I m g c;exact⟨_,.list j l k (by simpa using e)⟩
 | .tuple m,v,u,h,r=>by simp only[Dat] at h;obtain⟨a,w,rfl,q,g⟩:=h;cases (show u=Value.ref a from r);obtain⟨f,c,p,y⟩:=I.tuple (cC.of q);obtain⟨o,j,l,n,k⟩:=p;obtain⟨as,e⟩:=Inv.readsAll I m g c;exact⟨_,.tuple j l k (by simpa using e)⟩
 | .dict _,_,_,h,_=>by simp only[Dat] at h
theorem Inv.readsAll(I:Inv X pins σ H s):∀(ds:List PyData){vs:List V}{us:zzt},aV H vs ds->Vals vs us -> ∃as,ReadsAll s.heap us ds as
 | [],[],_,_,.nil=>⟨_,.nil⟩
 | d::ds,v::vs,_,h,.cons r rs=>by simp only[aV] at h;obtain⟨as,b⟩:=Inv.reads I d h.1 r;obtain⟨bs,a⟩:=Inv.readsAll I ds h.2 rs;exact⟨_,.cons b a⟩
 | _::_,[],_,h,_=>by simp only[aV] at h
 | [],_::_,_,h,_=>by simp only[aV] at h
end
inductive UG(neg:Bool)(x y:V)(H:Hp)(Q:VK):Prop|m:∀d e,Dat H x d->Dat H y e->SeqAt.shaped d=true->SeqAt.shaped e=true->(Q (.bl (if neg then !PyData.eqv d e else PyData.eqv d e)) H)->UG neg x y H Q
def abX(k:X.A.units+64<cLine):sZ X (compareOp .Eq) (UG false):=by intro a s n H x y v u Q I g f h;obtain⟨d,e,m,l,c,b,q⟩:=h;obtain⟨as,j⟩:=I.reads d m g;obtain⟨bs,i⟩:=I.reads e l f;exact SeqAt.compareEq_shaped j i c b k ⟨.bl _,H,I,Z,q⟩
def abV(k:X.A.units+64<cLine):sZ X (compareOp .NotEq) (UG true):=by intro a s n H x y v u Q I g f h;obtain⟨d,e,m,l,c,b,q⟩:=h;obtain⟨as,j⟩:=I.reads d m g;obtain⟨bs,i⟩:=I.reads e l f;exact SeqAt.compareNe_shaped j i c b k ⟨.bl _,H,I,Z,q⟩
def W7{c:Value}(rc:RelV cv c):jm X (.builtin "isinstance") (λxs H Q=>∃x t b,xs=[x,cv]/\uI X.K H x t/\W.kitOne X.K t c=some b/\Q (.bl b) H):=by
 intro g s k H xs l Q I r h;obtain⟨x,t,b,rfl,ty,e,q⟩:=h;obtain⟨u,d,rfl,j,f⟩:=vals2 r
 have:d=c:=by
  cases cv with
  | non=>exact(show d=Value.none from f).trans (show c=Value.none from rc).symm
  | bl b=>exact(show d=Value.bool b from f).trans (show c=Value.bool b from rc).symm
  | ref a=>exact(show d=Value.ref a from f).trans (show c=Value.ref a from rc).symm
  | ty n=>exact(show d=Value.type n from f).trans (show c=Value.type n from rc).symm
  | int i=>obtain⟨t1,rfl⟩:=(show ∃t,c=Value.int i t from rc);unfold W.kitOne at e;exact adt e (by cases ty<;>simp[W.kitCls])
  | str i=>obtain⟨t1,rfl⟩:=(show ∃t,c=Value.str i t from rc);unfold W.kitOne at e;exact adt e (by cases ty<;>simp[W.kitCls])
  | Mw i=>obtain⟨t1,rfl⟩:=(show ∃t,c=Value.bytes i t from rc);unfold W.kitOne at e;exact adt e (by cases ty<;>simp[W.kitCls])
  | flt i=>obtain⟨t1,rfl⟩:=(show ∃t,c=Value.float i t from rc);unfold W.kitOne at e;exact adt e (by cases ty<;>simp[W.kitCls])
 subst this;exact Rm I j ty e λm=>⟨.bl b,H,I.tok _,Z,q⟩
section
variable{prog:Program}
def zU(t:A.handled=none)(it a:Addr)(m:it≠a)(c:zzt):Walks prog w A it [it,a] [it] c.length (λi v=>c[i]?=some v) (λi h=>h.IsListIter it a i/\h.IsList a c.toArray) where
 sub:=by simp
 frame:=λi h j ⟨d,o,r,u⟩ k=>⟨d.at λo e=>k it MZ o e,o,k a MZ o r,u⟩
 item:=λi s Q E q ⟨d,g⟩ f=>wpAny_pyNext_list_item d g (x:=c[i]) (by simp[q]) λj l p=>
  f _ j s.toks (by simp[q]) ⟨l,g.extBut p.extBut m.symm⟩ λb o n e=>(p.2 b (by simpa using n)).trans e
 done:=λs Q E ⟨d,g⟩ f=>wpAny_pyNext_list_end t d g MZ λj y=>f j s.toks λb o n e=>y b o (by simpa using n) e
 self:=λi s Q E ⟨d,_⟩ f=>wpAny_pyIter_listiter d f
end
def Dk(bs:List Bool):(List.range bs.length).all (λi=>(bs[i]?).getD false)=bs.all id:=by
 rw[Bool.eq_iff_iff,List.all_eq_true,List.all_eq_true];constructor
 .intro h b d
  obtain⟨i,c,rfl⟩:=adb d;have:=h i (by simpa using c);simpa [c] using this
 .intro h i c
  have a:i<bs.length:=by simpa using c
  simpa [a] using h bs[i] (List.getElem_mem a)
def Ky{bs:List Bool}:∀{us:zzt},Vals (bs.map V.bl) us->us=bs.map Value.bool:=by
 induction bs with
 | nil=>intro us r;cases r;rfl
 | cons b bs c=>
   intro us r;cases r with
   | cons r a=>cases (show _=Value.bool b from r);rw[c a];rfl
def Cm(B:X.calm=true):jm X (.builtin "all") (λxs H Q=>∃(p:Addr) (bs:List Bool),xs=[.ref p]/\bF X.K H p (bs.map V.bl)/\Q (.bl (bs.all id)) H):=by
 intro c s w H xs E Q I r h;obtain⟨p,bs,rfl,A,q⟩:=h;obtain⟨u,rfl,x⟩:=vals1 r;cases x;obtain⟨a,y,j,G⟩:=I.list A;have e:=Ky y;have d:a.length=bs.length:=by rw[e,aak]
 refine call_all_walk (wpAny_pyIter_list j.isList ⟨s.heap.objs.size,[s.heap.objs.size,p],[s.heap.objs.size],a.length,_,_,λi=>(bs[i]?).getD false,Z,
  zU (show X.A.in1.handled=none from I.ok.hd B) s.heap.objs.size p ?_ a,⟨⟨_,aar _ rfl,Z,Z⟩,?_⟩,?_,?_⟩)
 .intro z
  obtain⟨o,l,_⟩:=j.isList;have:=aas l;rw[←z] at this;exact adk _ this
 .obtain⟨o,l,m⟩:=j.isList
  exact⟨o,aaq _ l,m⟩
 .intro i v F J K g t
  rw[e,aap] at g;cases r:bs[i]? with
  | none=>rw[r] at g;cases g
  | some b=>
    rw[r] at g;cases g;simp only[r,Option.getD_some] at t;exact wpAny_truthy_bool t
 .intro h' n k
  rw[d,Dk];have f:=I.vN (H':=H) (b:=s.heap.objs.size) (aav _) (I.hok.fresh (aav _));have D:Inv X c w H {s with heap:=h',toks:=n}:=I.turned (h':=h') (t':=n) (it:=s.heap.objs.size) (λb o C e=>k b o (by simpa using C) (aaq _ e)) f.1 f.2.1 f.2.2.2.1 f.2.2.2.2.1 f.2.2.2.2.2;exact⟨.bl _,H,D,Z,q⟩
def FnAt(P:Program)(w:World)(K:zzy)(mg:zzv)(base:Heap)(k:Nat)(x:Str)(ps:List Str)(sp:Sp):Prop:=∃f fd,bN P w K mg base ig k f fd ps sp/\mg x=some (.ref f)/\W.keepIn K (.ref f)=true/\Binds K fd ps []
section
variable{t:TA}{p:Pos}
def bK(F:FnAt X.prog X.w X.K X.mg X.base k x ps sp)(a:eU k X.A)(d:Gl X x)(i:PA X (e::es) t)(g:(x==("__debug__" :Str))=false:=by decide)(he:starEach (e::es) X.env=(false,eval e X.env)::starEach es X.env:=by rfl)(hpl:(backTo pos (starEach es X.env)).any (·.1)=false:=by rfl):
 PE X (.Call (.Name x p) (e::es) [] pos) (Iw sp [] E0 t):=by
 obtain⟨f,j,G,b,c,h⟩:=F;exact YT G a d b c h .nil Jf i (hdb:=g) (he:=he) (hpl:=hpl)
end
def Cq:bootBuiltins "all" = some (.builtin "all"):=by kernel_rfl
def cH:bootBuiltins "len" = some (.builtin "len"):=by kernel_rfl
def W9:bootBuiltins "min" = some (.builtin "min"):=by kernel_rfl
def ac0:bootBuiltins "max" = some (.builtin "max"):=by kernel_rfl
def Mx:bootBuiltins "sum" = some (.builtin "sum"):=by kernel_rfl
def Sh:bootBuiltins "sorted" = some (.builtin "sorted"):=by kernel_rfl
def bL:bootBuiltins "isinstance" = some (.builtin "isinstance"):=by kernel_rfl
def Cp:bootBuiltins "int" = some (.type "int"):=by kernel_rfl
def vZ:bootBuiltins "bool" = some (.type "bool"):=by kernel_rfl
def fu:bootBuiltins "list" = some (.type "list"):=by kernel_rfl
def vY:bootBuiltins "tuple" = some (.type "tuple"):=by kernel_rfl
def acZ:bootBuiltins "str" = some (.type "str"):=by kernel_rfl
def Ow:sZ X (binaryOp .Mult) (rI IntMulOk λi j=> .int (i*j)):=opI λ_ _ _ _ _ _ _ a q=>mul_int q a
def Kp(r:Addr)(H H':Hp):Prop:=∀b o,H b=some o->b≠r->H' b=some o
def Kp.of_same{r:Addr}(h:Same H H'):Kp r H H':=λb o e _=>h b o e
def Kp.trans{r:Addr}{H1 H2:Hp}(a:Kp r H H1)(b:Kp r H1 H2):Kp r H H2:=λc o h n=>b c o (a c o h n) n
def Kp.set{r:Addr}{o:HO}:Kp r H (upd H r o):=λb u e n=>by rw[aF n];exact e
def aH{o:HO}(h:H p=none):Same H (upd H p o):=λb u e=>by rw[aF (aB e h)];exact e
def Same.tups(e:Same H H'):∀a xs,H a=some (HO.tup xs)->H' a=some (HO.tup xs):=λa xs h=>e _ _ h
def Same.sqL(e:Same H H'):∀a xs,bF K H a xs->bF K H' a xs:=λa xs h=>e.seq h
def Kp.tups{r:Addr}(e:Kp r H H')(b:H r=some (.lst ys)):∀a xs,H a=some (HO.tup xs)->H' a=some (HO.tup xs):=λa xs h=>e _ _ h (dG h b ZN)
def aO(h:X.K=K):IxR X (qO K):=by subst h;exact Zo
def aX(h:X.K=K):IxR X (Uz K):=by subst h;exact acy
def nZ(h:X.K=K):SlR X (Uy K):=by subst h;exact Ym
def Od(h:X.K=K):SlR X (abD K):=by subst h;exact abv
def Bq(h:X.K=K):sZ X (compareOp .In) (rIn K false):=by subst h;exact QL
def ahX(K:zzy):List V->Hp->VK->Prop:=λxs H Q=>∃(p:Addr) (ys:List V),xs=[.ref p]/\(bF K H p ys\/cC K H p ys)/\Q (.int ys.length) H
def aW(h:X.K=K):jm X (.builtin "len") (ahX K):=by subst h;exact Hx
def Yy(K:zzy):List V->Hp->VK->Prop:=λxs H Q=>∃(p:Addr) (ys:List V),xs=[.ref p]/\(bF K H p ys\/cC K H p ys) /\ ∀l,H l=none->Q (.ref l) (upd H l (.lst ys))
def cA(h:X.K=K):jm X (.type "list") (Yy K):=by subst h;exact Hw
def aev(K:zzy):List V->Hp->VK->Prop:=λxs H Q=>∃(p:Addr) (bs:List Bool),xs=[.ref p]/\bF K H p (bs.map V.bl)/\Q (.bl (bs.all id)) H
def gA(h:X.K=K)(a:X.calm=true):jm X (.builtin "all") (aev K):=by subst h;exact Cm a
def pJ(h:X.K=K)(a:X.A.units+64<cLine):sZ X (compareOp .Eq) (UG false):=by subst h;exact abX a
def Ov(h:X.K=K)(a:X.A.units+64<cLine):sZ X (compareOp .NotEq) (UG true):=by subst h;exact abV a
def cQ{l:Expr}{a:TE}(h:X.K=K)(b:PE X l a):PI X tg l (aaI K a):=by subst h;exact YL b
def YJ{l:Expr}{a:TE}(h:X.K=K)(b:PE X l a):PI X tg l (aeP K a):=by subst h;exact abK b
def ahY(K:zzy)(c:Value)(cv:V):List V->Hp->VK->Prop:=λxs H Q=>∃x t b,xs=[x,cv]/\uI K H x t/\W.kitOne K t c=some b/\Q (.bl b) H
def cT{c:Value}(h:X.K=K)(rc:RelV cv c):jm X (.builtin "isinstance") (ahY K c cv):=by subst h;exact W7 rc
def fW{o:Expr}{t:TA}(h:X.K=K)(f:PE X o to)(g:PA X [e] t)(c:attributeBase o "append" X.env (eval o X.env)=eval o X.env:=by rfl)(d:((backTo cpos (starEach [e] X.env)).all (λx=> !x.1)&&(backToKw cpos (keywordEach [] X.env)).all (λx=>x.1.isSome)
   && decide (([e]:List Expr).length+([]:List Keyword).length+(if ([]:List Keyword).isEmpty then 0 else 1)<30))=true:=by rfl)(b:(apos.endLine==cpos.line)=true:=by rfl)(hs:starEach [e] X.env=(false,eval e X.env)::starEach [] X.env:=by rfl)(a:(backTo cpos (starEach [] X.env)).any (·.1)=false:=by rfl):
 PE X (.Call (.Attribute o "append" apos) [e] [] cpos) (tBM K "list" vo to t):=by
 subst h;exact aax F.plainAttrs_list F.slot_list_append F.type_list_append Em f g c d b hs a
end L2
namespace L2
open PySem
section
variable{Q:VK}{H1:Hp}
def jC(d:Nat->St->Hp->Prop)(t:d 0 σ0 (upd H1 D (.lst [])))(o:∀i σ H,i<=xs.length->d i σ H->bF K H a xs)(hs:∀i x σ H,xs[i]?=some x->d i σ H->g x σ H λc H2=>tc c H2 λb k=>
   if b=true then te c k λy j=>∃f,j D=some (.lst f)/\f.length<sizeLine/\d (i+1) c (upd j D (.lst (f++[y]))) else d (i+1) c k)(s:∀σ H,d xs.length σ H->Q (.ref D) H):iu (XD K a) g tc te Q D σ0 H1:=by
 refine⟨λi m σ H=>m=xs.length-i/\i<=xs.length/\d i σ H,⟨xs.length,MZ,Nat.zero_le _,t⟩,?_⟩;rintro i m σ H ⟨rfl,r,p⟩;have q:=o i σ H r p
 by_cases h:i<xs.length
 .refine .inr ⟨⟨xs,xs[i],q,by simp[h]⟩,d (i+1),λl u n=>⟨xs.length-(i+1),LZ,Z,h,n⟩,λx u y=>?_⟩
  obtain⟨e,y⟩:=y;subst e;exact hs i x σ _ (y xs q) p
 .have e:i=xs.length:=by lia
  subst e;exact .inl ⟨⟨xs,q,aav _⟩,s σ H p⟩
def W2(d:Nat->St->Hp->Prop)(t:d 0 σ0 (upd H1 D (.lst [])))(o:∀i σ H,i<=xs.length->d i σ H->cC K H a xs)(hs:∀i x σ H,xs[i]?=some x->d i σ H->g x σ H λc H2=>tc c H2 λb k=>
   if b=true then te c k λy j=>∃f,j D=some (.lst f)/\f.length<sizeLine/\d (i+1) c (upd j D (.lst (f++[y]))) else d (i+1) c k)(s:∀σ H,d xs.length σ H->Q (.ref D) H):iu (Itt K a) g tc te Q D σ0 H1:=by
 refine⟨λi m σ H=>m=xs.length-i/\i<=xs.length/\d i σ H,⟨xs.length,MZ,Nat.zero_le _,t⟩,?_⟩;rintro i m σ H ⟨rfl,r,p⟩;have q:=o i σ H r p
 by_cases h:i<xs.length
 .refine .inr ⟨⟨xs,xs[i],q,by simp[h]⟩,d (i+1),λl u n=>⟨xs.length-(i+1),LZ,Z,h,n⟩,λx u y=>?_⟩
  obtain⟨e,y⟩:=y;subst e;exact hs i x σ _ (y xs q) p
 .have e:i=xs.length:=by lia
  subst e;exact .inl ⟨⟨xs,q,aav _⟩,s σ H p⟩
def iQ{lo:Int}(f:Nat->St->Hp->Prop)(q:f 0 σ0 (upd H1 D (.lst [])))(hs:∀i σ H,i<n->f i σ H->g (.int (lo+i)) σ H λa H2=>tc a H2 λb j=>
   if b=true then te a j λy h=>∃d,h D=some (.lst d)/\d.length<sizeLine/\f (i+1) a (upd h D (.lst (d++[y]))) else f (i+1) a j)(o:∀σ H,f n σ H->Q (.ref D) H):iu (Xh lo n) g tc te Q D σ0 H1:=by
 refine⟨λi m σ H=>m=n-i/\i<=n/\f i σ H,⟨n,MZ,Nat.zero_le _,q⟩,?_⟩;rintro i m σ H ⟨rfl,s,p⟩
 by_cases c:i<n
 .refine .inr ⟨c,f (i+1),λk r l=>⟨n-(i+1),LZ,Z,c,l⟩,λx r y=>?_⟩
  obtain⟨e,y⟩:=y;subst e y;exact hs i σ _ c p
 .have e:i=n:=by lia
  subst e;exact .inl ⟨aav _,o σ H p⟩
end
end L2
namespace L2
open PySem PySem.Spec PyProof.Rows
section
variable{α:Type}(f:α->PyData)
theorem iR:∀(l:List α),(∀x∈l,(f x).canLay0=true)->PyData.canLayAll0 (l.map f)=true
 | [],_=>rfl
 | a::l,h=>by show (PyData.canLay0 (f a)&&PyData.canLayAll0 (l.map f))=true;rw[h a List.mem_cons_self,iR l λx b=>h x (abz _ b)];rfl
theorem fY(k:Nat):∀(l:List α),(∀x∈l,(f x).depth<=k)->PyData.depthAll (l.map f)<=k
 | [],_=>Nat.zero_le _
 | a::l,h=>by show max (PyData.depth (f a)) (PyData.depthAll (l.map f))<=k;exact Nat.max_le.mpr ⟨h a List.mem_cons_self,fY k l λx b=>h x (abz _ b)⟩
def yj{l:List α}(k:Nat)(e:k<64)(b:∀x∈l,(f x).canLay0=true)(a:∀x∈l,(f x).depth<=k):SeqAt.shaped (.list (l.map f))=true:=by
 unfold SeqAt.shaped;have d:PyData.canLay0 (.list (l.map f))=true:=iR f l b
 have c:PyData.depth (.list (l.map f))<=64:=by show PyData.depthAll (l.map f)+1<=64;have:=fY f k l a;lia
 rw[d,aaO c];rfl
theorem Cd[DecidableEq α](h:∀x y,PyData.eqv (f x) (f y)=decide (x=y)):∀(l m:List α),PyData.eqvAll (l.map f) (m.map f)=decide (l=m)
 | [],[]=>rfl
 | [],_::_=>by simp only[List.map_nil,List.map_cons,PyData.eqvAll];exact(aaP ZN).symm
 | _::_,[]=>by simp only[List.map_nil,List.map_cons,PyData.eqvAll];exact(aaP ZN).symm
 | a::l,b::m=>by
   simp only[List.map_cons,PyData.eqvAll];rw[h a b,Cd h l m]
   by_cases d:a=b
   .subst d
    by_cases c:l=m
    .subst c;simp
    .simp[c]
   .simp[d]
def jR[DecidableEq α](h:∀x y,PyData.eqv (f x) (f y)=decide (x=y))(l m:List α):PyData.eqv (.list (l.map f)) (.list (m.map f))=decide (l=m):=by simp only[PyData.eqv];exact Cd f h l m
end
def oM(h:H a=some (.lst vs))(d:aV H vs ds):Dat H (.ref a) (.list ds):=by simp only[Dat];exact⟨a,vs,Z,h,d⟩
def yt(K:zzy):W.kitOne K (.type "int") (.type "int")=some true:=Z
def pP(K:zzy):W.kitOne K (.type "int") (.type "bool")=some false:=by kernel_rfl
def jL(K:zzy):W.kitOne K (.type "list") (.type "list")=some true:=Z
def iG(K:zzy):W.kitOne K (.type "tuple") (.type "tuple")=some true:=Z
def nJ(K:zzy):W.kitOne K (.type "bool") (.type "bool")=some true:=Z
end L2
namespace L2
open PySem
def Cj(xs:List V)(k:Nat):lQ xs none (some (k:Int))=xs.take k:=by
 unfold lQ;rw[HT.Bd,HT.Gp,List.drop_zero,Nat.sub_zero]
 by_cases h:k<=xs.length
 .rw[Nat.min_eq_left h]
 .rw[Nat.min_eq_right LZ,List.take_of_length_le (aav _),List.take_of_length_le LZ]
def JV(xs:List V)(k:Nat):lQ xs (some (k:Int)) none=xs.drop k:=by
 unfold lQ;rw[HT.Bd,HT.Gp]
 by_cases h:k<=xs.length
 .rw[Nat.min_eq_left h,List.take_of_length_le (by rw[List.length_drop];exact aav _)]
 .rw[Nat.min_eq_right LZ,Nat.sub_self,List.take_zero,List.drop_of_length_le LZ]
end L2
namespace PySem.W
open PySem PySem.Spec PySem.Calls PyProof.Rows
def ZK:builtinKind "BaseException.__getattribute__" = some .slot:=by decide +kernel
def Wk:splitId "BaseException.__getattribute__" = some ("BaseException","__getattribute__"):=by decide +kernel
section
variable{prog:Program}{K:Frag}{x:Addr}
def EY{M:Model}{a:Value}{Q:zzu}(X:K.In s.heap)(I:InstAt s.heap x ox D odo)(c:mroIn K D (.type "BaseException")=some true)(b:Q () s):
 wpAny M A (checkBuiltinCall "BaseException.__getattribute__" ⟨[.ref x,a],[]⟩) Q E s:=by
 obtain⟨e,g,d,t,os⟩:=s;have i:=I.type (M:=M);have h:=looks_mroIn (M:=M) X c;have f:=F.args_bexc_ga (.ref x) a;simp only[checkBuiltinCall,ZK,Wk];unfold isInstance
 repeat (first |lk|wp_step)
 all_goals first |exact b|trace_state
theorem Wu{Q:Option Value->Shared->Prop}{c a:Value}(X:K.In s.heap)(I:InstAt s.heap x ox D odo)(i:findIn K (.ref D) "__getattribute__" = some (some (.builtin "BaseException.__getattribute__")))(k:findIn K (.ref D) "__getattr__" = some none)(n:mroIn K D (.type "BaseException")=some true)(m:findObj K D odo name=some (.bind c a))(FB:Slot "Exception" "__getattribute__" "BaseException.__getattribute__")(h:∀y,codeAny (model prog w) y (.call c ⟨[a,.ref x,.ref D],[]⟩) (λr s'=>match r with | .ok (.ret v)=>wpAny (model prog w) A (handedOut v) (λv b=>Q (some v) b) (λ_ _=>False) s'|_=>False) {s with toks:=s.toks+1}):
 wpAny (model prog w) A (getAttr? (.ref x) name) Q E s:=by
 obtain⟨l,g,d,t,os⟩:=s;have j:=I.type (M:=model prog w);have u:=looks_findIn (M:=model prog w) X i;have L2:=looks_findIn (M:=model prog w) X k;have p:=looks_find (M:=model prog w) X I m;have e:(Value.builtin "BaseException.__getattribute__" == Value.builtin "object.__getattribute__")=false:=by decide +kernel
 have o:=FB.bind (.ref x);unfold getAttr? getAttrBy? getAttrBy;refine aaB (wpAny_mkText (aaB (wpAny_attempt (wpAny_holding (aaB (j.at (aaB (u.at ?_))))))));simp only[e,Bool.and_false,Bool.false_eq_true,if_false];unfold getAttrByItsOwn hookBefore;show wpAny _ _ (typeLookup (.ref D) "__getattr__" >>= _) _ _ _;refine aaB (L2.at ?_);refine aaB (wpAny_attempt (wpAny_holding ?_));unfold callGetattribute boundAndCalled;rw[adp DZ];refine aaB (wpAny_of_eq o ?_);refine wpAny_call (codeAny_call_builtin FB.plain F.entry_bexc_ga (EY (s:=⟨l,g,d,t+1,os⟩) X I n ?_));show wpAny _ _ (Builtin.«object.__getattribute__» ⟨[.ref x,.str name t],[]⟩) _ _ _;unfold Builtin.«object.__getattribute__»;refine aaB (aaD ?_);refine aaB (aaD ?_);refine aaB (j.at (aaB (p.at ?_)));show wpAny _ _ (Builtin.ObjectAttr.bindTo c a (.ref x) (.ref D)) _ _ _;unfold Builtin.ObjectAttr.bindTo;show wpAny _ _ (holding [a] (call c [a,.ref x,.ref D]) >>= λv=>ret v) _ _ _;refine aaB (wpAny_holding (wpAny_call (codeAny_mono (h _) λr s' f=>?_)))
 match r,f with
 | .ok (.ret v),f=>
   refine aaD ?_;exact wpAny_mono f (λv b q=>aaD q) λ_ _ z=>z.elim
end
def Wt:Slot "Exception" "__getattribute__" "BaseException.__getattribute__" :=F.attr_Exception.ga
def Dt{K:Frag}{c:Option Obj}{a g:Value}(b:(clsIn K C).isSome=true)(f:findIn K (.ref C) name=some (some a))(e:specialIn K a "__get__" = some (some g))(d:takesIn K a=some true):findObj K C c name=some (.bind g a):=by obtain⟨cd,b⟩:=Option.isSome_iff_exists.mp b;unfold findObj;rw[b,Option.bind_some,f,Option.bind_some];simp[e,d]
def RD{prog:Program}{K:Frag}{x:Addr}{Q:Option Value->Shared->Prop}(X:K.In s.heap)(I:InstAt s.heap x ox D odo)(b:findIn K (.ref D) "__getattribute__" = some (some (.builtin "BaseException.__getattribute__")))(e:findIn K (.ref D) "__getattr__" = some none)(j:mroIn K D (.type "BaseException")=some true)(g:(clsIn K D).isSome=true)(i:findIn K (.ref D) "__class__" = some (some (.builtin "object.__class__")))(c:specialIn K (.builtin "object.__class__") "__get__" = some (some (.builtin "getset_descriptor.__get__")))(a:takesIn K (.builtin "object.__class__")=some true)(d:mroIn K D (.type "object")=some true)(h:Q (some (.ref D)) {s with toks:=s.toks+1}):wpAny (model prog w) A (getAttr? (.ref x) "__class__") Q E s:=by have f:findObj K D odo "__class__" = some (.bind (.builtin "getset_descriptor.__get__") (.builtin "object.__class__")):=Dt g i c a;exact Wu X I b e j f Wt λk=>class_get (s:={s with toks:=s.toks+1}) X I d (handed_on rfl h)
structure Xc(K:Frag)(D:Addr):Prop where
 hga:findIn K (.ref D) "__getattribute__" = some (some (.builtin "BaseException.__getattribute__"))
 hk:findIn K (.ref D) "__getattr__" = some none
 hB:mroIn K D (.type "BaseException")=some true
 hc:(clsIn K D).isSome=true
 ha:findIn K (.ref D) "__class__" = some (some (.builtin "object.__class__"))
 hn:specialIn K (.builtin "object.__class__") "__get__" = some (some (.builtin "getset_descriptor.__get__"))
 htk:takesIn K (.builtin "object.__class__")=some true
 hm:mroIn K D (.type "object")=some true
def V5{K:Frag}{x:Addr}(c:Xc K D):KitX K (.ref x) (.ref D) (λh=>∃ox odo,InstAt h x ox D odo) where
 ty:=λ_ _ _ ⟨_,_,I⟩=>I.type
 it:=λ_ _ X _=>by
  have a:=c.hc;unfold clsIn at a;split at a
  .rename_i m l g b f
   intro u s t p k q;unfold isType loadHead;exact aaB (wpAny_loadPart (k _ _ (X _ _ f)) (aaD q))
  .cases a
 ne:=λh i r j n o X d=>by
  have a:=c.hc;refine Bool.eq_false_iff.mpr λq=>?_;have e:D=i:=Value.ref.inj (beq_iff_eq.mp q);subst e;unfold clsIn at a;split at a
  .rename_i m l g b f
   have z:=(X _ _ f).symm.trans d;cases z
  .cases a
 ca:=λX ⟨_,_,I⟩ k=>RD X I c.hga c.hk c.hB c.hc c.ha c.hn c.htk c.hm k
end PySem.W
namespace L2
open PySem PySem.Spec PyProof.Rows
def xW(h:Heap)(e:Addr)(cls:Value)(b:Option Addr)(lo:Addr->Prop):Option Value->Prop
 | none=>∃oe vs,h.get? e=some oe/\oe.cls=cls/\oe.dict=b/\oe.data=.fields vs/\vs[1]?=some .none
 | some f=>∃oe vs T a ts,h.get? e=some oe/\oe.cls=cls/\oe.dict=b/\oe.data=.fields vs/\vs[1]?=some (.ref T)/\lo T/\T≠e/\h.get? T=some a/\a.data=.fields ts/\ts[3]?=some f
def xW.there{h:Heap}{e:Addr}{cls:Value}{f:Option Value}(x:xW h e cls dx lo f):∃oe vs,h.get? e=some oe/\oe.cls=cls/\oe.dict=dx/\oe.data=.fields vs:=by
 cases f with
 | none=>obtain⟨oe,vs,a,b,c,d,_⟩:=x;exact⟨oe,vs,a,b,c,d⟩
 | some f=>obtain⟨oe,vs,_,_,_,a,b,c,d,_⟩:=x;exact⟨oe,vs,a,b,c,d⟩
section
variable{M:Model}{e:Addr}
structure rH(fr:List Addr)(e:Addr)(lo:Addr->Prop)(h h':Heap):Prop where
 keep:∀b o,h.get? b=some o->b∉fr->b≠e -> ¬lo b->h'.get? b=some o
 slot:∀b o,h.get? b=some o->b∈fr->b≠e -> ¬lo b -> ∃sl,h'.get? b=some {o with slots:=sl}
 there:∀b o,h.get? b=some o -> ∃o',h'.get? b=some o'
def rH.trans{fr:List Addr}{h j:Heap}(a:rH fr e lo h h1)(b:rH fr e lo h1 j):rH fr e lo h j where
 keep:=λc o q g f d=>b.keep c o (a.keep c o q g f d) g f d
 slot:=λc o q g f d=>by obtain⟨l,q1⟩:=a.slot c o q g f d;obtain⟨i,q2⟩:=b.slot c _ q1 g f d;exact⟨i,q2⟩
 there:=λc o q=>by obtain⟨k,q1⟩:=a.there c o q;exact b.there c k q1
def oX{h:Heap}{o:Obj}{vs:Array Value}(q:h.get? a=some o)(d:o.data=.fields vs)(i:Nat)(v:Value):
 (h.update a (Obj.mapFields (·.setIfInBounds i v))).get? a=some (Obj.mapFields (·.setIfInBounds i v) o)/\(Obj.mapFields (·.setIfInBounds i v) o).data=.fields (vs.setIfInBounds i v) /\(Obj.mapFields (·.setIfInBounds i v) o).cls=o.cls/\(Obj.mapFields (·.setIfInBounds i v) o).dict=o.dict:=by
 have b:=Obj.data_mapFields d (·.setIfInBounds i v);refine⟨Heap.get?_update_self _ q (Obj.isFreed_of_fields b),b,Obj.cls_mapFields _ _,?_⟩;obtain⟨c,g,f,e⟩:=o;simp only at d;subst d;rfl
theorem Ti{vs:Array Value}{head:Value}{d:Bool}{cls:Value}{Q:zzu}(v:A.frames=some (env::outer))(z:s.heap.FunFrames base (env::outer))(K:env.frame=some L)(he:s.heap.get? e=some oe)(n:oe.data=.fields vs)(k:1<vs.size)(N:oe.cls=cls)(w:oe.dict=dx)(u:∀T,s.heap.get? T=none->lo T)(h:∀h',rH (frs (env::outer)) e lo s.heap h'->xW h' e cls dx lo (some (rawInt L))->Q () {s with heap:=h'}):
 wpAny M A (do let a ←frameOf env;let pl ←entryPlaceOf L d;let b ←EntryCells.newEntry head a .none (rawInt L) .none pl;setField (.ref e) 1 b) Q E s:=by
 have r:e∉frs (env::outer):=λJ=>by obtain⟨_,o,q,H⟩:=z.mem J;rw[he] at q;cases q;exact H vs n
 refine aaB (wpAny_frameOf_fun v z K λg c=>?_);refine aaB (wpAny_entryPlaceOf λpl l=>?_);unfold EntryCells.newEntry newFields;refine aaB (wpAny_newObj_type ?_ (l.sizeOk5 _ _ _ _ _));generalize m:({cls:= .type "traceback",dict:=none,data:= .fields ([head,.ref L,.none,rawInt L,.none]++(if pl.isEmpty then List.replicate 6 Value.none else pl)).toArray}:Obj)=x;have q1:g.get? e=some oe:=(c.2.1 e r).trans he;have q2:=aaq (h:=g) x q1;have j:g.objs.size≠e:=Nat.ne_of_gt (aas q1);have f:g.objs.size=s.heap.objs.size:=c.1;have i:s.heap.get? g.objs.size=none:=Heap.get?_none_of_le (by rw[f];exact aav _);refine wpAny_setField q2 n k (h _ ⟨λb o q y t I=>?_,λb o q y t I=>?_,λb o q=>?_⟩ ?_)
 .rw[Heap.get?_update_other _ _ (Ne.symm t)]
  exact aaq _ ((c.2.1 b y).trans q)
 .obtain⟨p,q3⟩:=c.2.2 b o q
  refine⟨p,?_⟩;rw[Heap.get?_update_other _ _ (Ne.symm t)];exact aaq _ q3
 .obtain⟨p,q3⟩:=c.2.2 b o q
  by_cases B:b=e
  .subst B
   exact⟨_,(oX q2 n 1 _).1⟩
  .refine⟨{o with slots:=p},?_⟩
   rw[Heap.get?_update_other _ _ (Ne.symm B)];exact aaq _ q3
 .obtain⟨G,F,D,C⟩:=oX q2 n 1 (Value.ref g.objs.size)
  refine⟨_,_,g.objs.size,x,_,G,D.trans N,C.trans w,F,by simp[k],u _ i,j,?_,by rw[←m],?_⟩
  .rw[Heap.get?_update_other _ _ (Ne.symm j)]
   exact aar _ (by rw[←m];rfl)
  .first |(simp;done)|(rcases l with rfl|⟨_,_,_,_,_,_,_,rfl⟩<;>simp)
theorem aai{cls:Value}{Q:zzu}(r:fl=none\/fl=some .none)(i:A.frames=some (env::outer))(C:s.heap.FunFrames base (env::outer))(t:env.frame=some L)(x:xW s.heap e cls dx lo fl)(g:∀T,s.heap.get? T=none->lo T)(h:∀h',rH (frs (env::outer)) e lo s.heap h'->xW h' e cls dx lo (some (rawInt L))->Q () {s with heap:=h'}):wpAny M A (noteFrame (.ref e) env) Q E s:=by
 unfold noteFrame;simp only[t];rcases r with rfl|rfl
 .obtain⟨J,H,j,u,f,k,l⟩:=x
  refine aaB (wpAny_field j k l ?_);rw[adp DZ];exact Ti i C t j k (Array.getElem?_eq_some_iff.mp l).1 u f g h
 .obtain⟨J,H,T,V,y,j,u,f,k,l,D,N,m,d,F⟩:=x
  refine aaB (wpAny_field j k l ?_);rw[adq (show (Value.ref T != Value.none)=true from by simp)];refine aaB (wpAny_field m d F ?_);rw[adp (show ¬((Value.none==rawInt L)=true) from by simp[rawInt])];have p:3<y.size:=(Array.getElem?_eq_some_iff.mp F).1;refine aaB (wpAny_setField m d p ?_);have a:∀b,b≠T->(s.heap.update T (Obj.mapFields (·.setIfInBounds 3 Value.none))).get? b=s.heap.get? b:=λb c=>Heap.get?_update_other _ _ (Ne.symm c);obtain⟨I,U,S,R⟩:=oX m d 3 Value.none
  have P:rH (frs (env::outer)) e lo s.heap (s.heap.update T (Obj.mapFields (·.setIfInBounds 3 Value.none))):=by
   have B:∀b,¬lo b->b≠T:=λb c z=>c (by rw[z];exact D);refine⟨λb o q _ _ n=>(a b (B b n)).trans q,λb o q _ _ n=>⟨o.slots,(a b (B b n)).trans q⟩,λb o q=>?_⟩
   by_cases c:b=T
   .subst c;exact⟨_,I⟩
   .exact⟨o,(a b c).trans q⟩
  have v:(s.heap.update T (Obj.mapFields (·.setIfInBounds 3 Value.none))).FunFrames base (env::outer):=C.of_keeps λb o q K=>by
   by_cases c:b=T
   .subst c;rw[m] at q;cases q;exact adt d (K y)
   .exact⟨o,(a b c).trans q,Z⟩
  refine Ti (s:={s with heap:=s.heap.update T (Obj.mapFields (·.setIfInBounds 3 Value.none))}) i v t ((a e (Ne.symm N)).trans j) k (Array.getElem?_eq_some_iff.mp l).1 u f (λw z=>?_) λh' O G=>h h' (P.trans O) G
  by_cases c:w=T
  .rw[c];exact D
  .exact g w ((a w c).symm.trans z)
def S8{cls:Value}{Q:zzu}{fr:List Addr}{f:Value}(x:xW s.heap e cls dx lo (some f))(h:∀h',rH fr e lo s.heap h'->xW h' e cls dx lo (some .none)->Q () {s with heap:=h'}):wpAny M A (setFlight (.ref e) none) Q E s:=by
 obtain⟨B,v,T,H,y,n,C,j,p,t,r,m,u,g,D⟩:=x;have d:3<y.size:=(Array.getElem?_eq_some_iff.mp D).1;unfold setFlight;refine aaB (wpAny_field n p t ?_);rw[adq (show (Value.ref T != Value.none)=true from by simp)];have a:∀b,b≠T->(s.heap.update T (Obj.mapFields (·.setIfInBounds 3 Value.none))).get? b=s.heap.get? b:=λb c=>Heap.get?_update_other _ _ (Ne.symm c);obtain⟨k,w,G,F⟩:=oX u g 3 Value.none;have l:∀b,¬lo b->b≠T:=λb c z=>c (by rw[z];exact r);refine wpAny_setField u g d (h _ ⟨λb o q _ _ i=>(a b (l b i)).trans q,λb o q _ _ i=>⟨o.slots,(a b (l b i)).trans q⟩,λb o q=>?_⟩ ?_)
 .by_cases c:b=T
  .subst c;exact⟨_,k⟩
  .exact⟨o,(a b c).trans q⟩
 .exact⟨B,v,T,_,_,(a e (Ne.symm m)).trans n,C,j,p,t,r,m,k,w,by simp[d]⟩
end
section
variable{e:Addr}
def dU.there{h:Heap}{o:HO}(x:dU P w H h a o):∃ob,h.get? a=some ob:=by
 induction o with
 | lst c=>obtain⟨_,_,_,_,q⟩:=x;exact⟨_,q⟩
 | tup c=>obtain⟨_,_,_,ob,q,_⟩:=x;exact⟨ob,q⟩
 | dK b=>obtain⟨_,_,_,_,ob,_,_,q,_⟩:=x;exact⟨ob,q⟩
 | dT b=>obtain⟨_,_,_,_,ob,_,_,q,_⟩:=x;exact⟨ob,q⟩
 | set S n=>obtain⟨ob,_,_,_,q,_⟩:=x;exact⟨ob,q⟩
 | ins C l d=>obtain⟨_,_,_,q,_⟩:=x;exact⟨_,q⟩
 | own y=>exact x
 | xd d=>obtain⟨_,⟨ob,_,_,q,_⟩,_⟩:=x;exact⟨ob,q⟩
 | rng i k=>obtain⟨_,_,_,q⟩:=x;exact⟨_,q⟩
 | JG ob u j=>exact⟨ob,x.1⟩
 | tbl g=>exact⟨_,x⟩
 | met f y=>exact⟨_,x⟩
 | ext e=>exact x.2.1
def Fo(X:Cx)(a:zzw)(H:Hp)(b:Addr):Prop:=H b=none/\b≠X.env.locals/\b∉X.fs/\X.s₀.heap.get? b=none/\(∀x c,X.env.cells.lookup x=some c->c≠b) /\ ∀p∈X.pn++a,p.1≠b
def Inv.xfp(I:Inv X pins σ H s)(d:X.ex=[])(a:s.heap.get? b=none):Fo X pins H b:=by
 refine⟨?_,λz=>?_,λz=>?_,?_,λx c q z=>?_,λp e z=>?_⟩
 .cases q:H b with
  | none=>rfl
  | some o=>
    obtain⟨f,r⟩:=(I.hok b o q).there;rw[a] at r;cases r
 .obtain⟨m,⟨o,_,_,r,_⟩,_⟩:=I.loc
  rw[←z,a] at r;cases r
 .obtain⟨_,o,r,_⟩:=I.qe.mem z
  rw[a] at r;cases r
 .cases q:X.s₀.heap.get? b with
  | none=>rfl
  | some o=>
    obtain⟨g,r⟩:=I.base.there b o q (by rw[d];simp);rw[a] at r;cases r
 .obtain⟨v,o,r,_⟩:=I.cell x c q
  rw[z,a] at r;cases r
 .obtain⟨r,_⟩:=I.pin p e
  rw[z,a] at r;cases r
theorem Inv.noted(I:Inv X pins σ H s)(n:rH (frs X.stack) e lo s.heap h')(A:∀b,(b=e\/lo b)->Fo X pins H b\/s.heap.get? b=none):Inv X pins σ H {s with heap:=h'}:=by
 have off:∀b o,s.heap.get? b=some o->(¬Fo X pins H b)->b≠e /\ ¬lo b:=λb o q D=>
  ⟨λz=>(A b (.inl z)).elim D λr=>(by rw[r] at q;cases q),λz=>(A b (.inr z)).elim D λr=>(by rw[r] at q;cases q)⟩
 have any:∀b o,s.heap.get? b=some o->(¬Fo X pins H b) -> ∃C,h'.get? b=some {o with slots:=C}:=λb o q D=>by
  obtain⟨h,g⟩:=off b o q D
  by_cases f:b∈frs X.stack
  .exact n.slot b o q f h g
  .exact⟨o.slots,n.keep b o q f h g⟩
 have s0:∀b o,X.s₀.heap.get? b=some o -> ¬Fo X pins H b:=λb o q x=>by rw[x.2.2.2.1] at q;cases q
 have F:∀b o,X.s₀.heap.get? b=some o->b≠X.env.locals:=λb o q=>aa7 (aa_ (aas q) I.ok.above);have j:∀b,b≠X.env.locals->b∉X.fs->b∉frs X.stack:=λb h g z=>(List.mem_cons.mp (I.Aa b z)).elim h g;have Xp:∀b o,H b=some o -> ¬Fo X pins H b:=λb o q x=>by rw[x.1] at q;cases q
 have B:∀b o,H b=some o->b∉frs X.stack:=λb o q z=>by rw[I.FN b z] at q;cases q
 have cl:∀x c,X.env.cells.lookup x=some c -> ∀v,s.heap.IsCell c v->h'.IsCell c v:=λx c q v ⟨o,G,P⟩=>by obtain⟨C,r⟩:=any c o G λz=>z.2.2.2.2.1 x c q rfl;exact⟨_,r,P⟩
 refine⟨I.ok,I.os,I.bare,⟨λb o q nn f y=>?_,λb o q nn f y=>?_,I.base.free,λb o q y=>?_,I.base.tups,I.base.vM,I.base.wI⟩,?_,λx c q=>?_,I.free,I.jr,λp J=>?_,λa o q=>?_,I.len⟩
 .have q1:=I.base.keep b o q nn f y
  obtain⟨h,g⟩:=off b o q1 (s0 b o q);exact n.keep b o q1 (j b (F b o q) f) h g
 .obtain⟨C,q1⟩:=I.base.slot b o q nn f y
  obtain⟨E,q2⟩:=any b _ q1 (s0 b o q);exact⟨E,q2⟩
 .obtain⟨N,q1⟩:=I.base.there b o q y
  exact n.there b N q1
 .obtain⟨m,⟨M,Q,R,G,r⟩,O⟩:=I.loc
  obtain⟨C,q1⟩:=any _ M G λz=>z.2.1 rfl;refine⟨m,⟨_,Q,R,q1,r⟩,λi x v U T S=>?_⟩;obtain⟨u,L,l⟩:=O i x v U T S;refine⟨u,L,?_⟩;rcases l with l|⟨k,c,K,z⟩
  .exact .inl l
  .exact .inr ⟨k,c,K,cl x c K _ z⟩
 .obtain⟨v,z⟩:=I.cell x c q
  exact⟨v,cl x c q v z⟩
 .obtain⟨q,nn,h,g,d⟩:=I.pin p J
  obtain⟨w,t⟩:=off p.1 p.2 q λz=>z.2.2.2.2.2 p J rfl;exact⟨n.keep p.1 p.2 q (j p.1 h g) w t,nn,h,g,d⟩
 .refine(I.hok a o q).stay (λb u f r=>?_) (λ_ z=>z) λ_ _ z=>z
  rcases f with rfl|f
  .obtain⟨w,t⟩:=off b u r (Xp b o q)
   exact n.keep b u r (B b o q) w t
  .obtain⟨w,t⟩:=off b u r (Xp b _ f)
   exact n.keep b u r (B b _ f) w t
def tM(P:Program)(w:World):S5:=λouter H s E ev s'=>∃(e:Addr) (cls:Value) (dx:Option Addr) (H':Hp),ev=.ref e/\s'.os=s.os/\AllBare s'.gens/\Un (frs outer) [] H H' s.heap s'.heap/\tG P w H' s'.heap /\s.heap.get? e=none/\H' e=none/\xW s'.heap e cls dx (λT=>s.heap.get? T=none/\H' T=none) (some .none)/\E cls dx H'
def Rz(X:Cx)(E:St->XK):Prop:=∀(pins:zzw)(σ:St)(H:Hp)(s:Shared)(e:Addr)(cls:Value)(dx:Option Addr)(fl:Option Value),(fl=none\/fl=some .none)->Inv X pins σ H s->Fo X pins H e ->xW s.heap e cls dx (Fo X pins H) fl->E σ cls dx H->X.xe (.ref e) s
def xW.imp{h:Heap}{e:Addr}{cls:Value}{a:Addr->Prop}{f:Option Value}(x:xW h e cls dx lo f)(k:∀T,(∃o,h.get? T=some o)->lo T->a T):xW h e cls dx a f:=by
 cases f with
 | none=>exact x
 | some f=>
   obtain⟨j,g,T,c,i,m,p,b,n,s,q,l,d,r⟩:=x;exact⟨j,g,T,c,i,m,p,b,n,s,k T ⟨c,d⟩ q,l,d,r⟩
def Ot{E:St->XK}(g:X.ex=[])(R:Rz X E){ev:Value}(I:Inv X pins σ H s)(c:tM X.prog X.w X.stack H s (E σ) ev s'):X.xe ev s':=by
 obtain⟨e,cls,n,a,rfl,h,i,u,d,ne,j,x,q⟩:=c;have w:Inv X pins σ a s':=I.call' (ch:=[]) h u d i (λb k=>by cases k)
 have f:∀T,s.heap.get? T=none->a T=none->Fo X pins a T:=λT m l=>by obtain⟨_,v,t,r,p,o⟩:=I.xfp g m;exact⟨l,v,t,r,p,o⟩
 exact R pins σ a s' e cls n _ (.inr rfl) w (f e ne j) (x.imp λT _ z=>f T z.1 z.2) q
def Jb{mg:zzv}{a:Scope}{E:XK}:
 Rz (qg (tM P w) P w K mg base N qual a f cd A outer s H E) (λ_=>E):=by
 intro c k H1 d e cls r u i I j x q;show wpAny (model P w) _ (leaving _ (.ref e)) _ _ d;unfold leaving;have lo1:∀b,(b=e\/(Fo (qg (tM P w) P w K mg base N qual a f cd A outer s H E) c H1 b\/d.heap.get? b=none))->Fo (qg (tM P w) P w K mg base N qual a f cd A outer s H E) c H1 b\/d.heap.get? b=none:=λb z=>z.elim (λz=> .inl (by rw[z];exact j)) λz=>z;have h:(qg (tM P w) P w K mg base N qual a f cd A outer s H E).A.frames=some ((qg (tM P w) P w K mg base N qual a f cd A outer s H E).env::outer):=I.ok.frames;refine aaB (aai (base:=base) (lo:=λT=>Fo (qg (tM P w) P w K mg base N qual a f cd A outer s H E) c H1 T\/d.heap.get? T=none) i h I.stack rfl (x.imp λT _ z=> .inl z) (λT z=> .inr z) λt o m=>?_);refine S8 (fr:=frs ((qg (tM P w) P w K mg base N qual a f cd A outer s H E).env::outer)) m λp n l=>?_;have g:Inv (qg (tM P w) P w K mg base N qual a f cd A outer s H E) c k H1 {d with heap:=p}:=I.noted (o.trans n) lo1;refine⟨e,cls,r,H1,Z,g.os,g.bare,g.base,g.hok,j.2.2.2.1,j.1,l.imp λT _ z=>?_,q⟩;rcases z with z|z
 .exact⟨z.2.2.2.1,z.1⟩
 .have y:=I.xfp rfl z
  exact⟨y.2.2.2.1,y.1⟩
end
def Xi(P:Program)(w:World)(K:zzy)(mg:zzv)(base:Heap)(k:Nat)(x:Str)(ps:List Str)(sp:Sp):Prop:=∃f fd,bN P w K mg base (tM P w) k f fd ps sp/\mg x=some (.ref f)/\W.keepIn K (.ref f)=true/\Binds K fd ps []
def abq(sp:Sp)(E:St->XK)(t:TA):TE:=λσ H Q=>t σ H λvs H1=>sp vs H1 Q (E σ)
section
variable{t:TA}{p:Pos}{E:St->XK}
def abO(F:Xi X.prog X.w X.K X.mg X.base k x ps sp)(n:X.ex=[])(R:Rz X E)(o:eU k X.A)(y:Gl X x)(B:PA X (e::es) t)(z:(x==("__debug__" :Str))=false:=by decide)(he:starEach (e::es) X.env=(false,eval e X.env)::starEach es X.env:=by rfl)(hpl:(backTo pos (starEach es X.env)).any (·.1)=false:=by rfl):
 PE X (.Call (.Name x p) (e::es) [] pos) (abq sp E t):=by
 obtain⟨f,D,G,v,w,A⟩:=F;intro a s j H Q I h;refine wpAny_Call_Name_kw (pN I y v ?_ z);refine W.callWith_K (h₀:=X.base) I.ok.mod.V7 w (dM (B pos a s j H _ I h) λi l ⟨m,H1,g,r,q⟩=>⟨g.oO,?_⟩) he hpl;have c:i.length=ps.length:=by rw[←r.length];exact G.len _ _ _ _ q
 have d:=A l i g.oO (by rw[List.append_nil];exact c);rw[List.append_nil] at d;refine wpAny_call (codeAny_mono (G.run X.A X.stack l H1 ⟨i,[]⟩ i m Q (E j) o g.env0 d r q) λres C b=>?_)
 match res,b with
 | .error ev,b=>exact Ot n R g b
 | .ok (.ret u),b=>exact g.after b
end
section
variable{mg:zzv}
def fU.Xv(F:fU K x qual st f fd)(S:aY N ps (aN st))(len:∀vs H Q E,sp vs H Q E->vs.length=ps.length)(a:∀(cdv:Value)(A:Around)(outer:List Env)(s:Shared)(H:Hp)(vs:List V)(Q:VK)(E:XK),eU k (A.deeper (envOfC qual (aN st) s.heap.objs.size f cdv))->sp vs H Q E ->Rz (qg (tM P w) P w K mg base N qual (aN st) f cdv A outer s H E) (λ_=>E) ->∃t,Ko (qg (tM P w) P w K mg base N qual (aN st) f cdv A outer s H E) (gG st) t/\t {nx:=λ_ H'=>Q .non H',rt:=Q} (start N vs) H):bN P w K mg base (tM P w) (k+1) f fd ps sp:=by obtain⟨i,h,kV,doc,pm,an,cdv,j,d,rfl,e,c⟩:=F.ex;exact Wq e c S len λA outer s H vs Q E g b=>a cdv A outer s H vs Q E g b Jb
end
def ZM{h:Heap}(X:K.In h)(q:W.excIn K C bmB newId=true):
 ∃bm N nm f bs hdct sn sub ab col dd k0 k1 k2 k3 k5 mN,h.get? C=some (excClassObj nm f C N bs bm hdct sn sub ab col dd k0 k1 k2 k3 k5 newId)/\h.Ns N mN/\mN "__init__" = none/\OwnTail h bmB bm:=by
 unfold W.excIn at q;split at q
 .rename_i F r s0 g
  split at q
  .rename_i G e w v u t nn s em b
   simp only[abt,beq_iff_eq,Bool.not_eq_true'] at q;obtain⟨⟨⟨⟨⟨p,o⟩,d⟩,n⟩,a⟩,c⟩:=q;subst p o;obtain⟨E,D,B,i,A,z,y,f8,x,k,j⟩:=r;dsimp only at em d a c;subst em d
   have m:s0 = #[w,v,u,t,some (.builtin nn),s]:=by obtain⟨l⟩:=s0;simp only at b;rw[b]
   subst m;exact⟨e,i,_,_,_,_,_,_,_,_,_,_,_,_,_,_,_,X _ _ g,.of_isNs (W.isNs_of_in X a),W.nsMap_none_of_in X a c,W.tail_of_in X n⟩
  .cases q
 .cases q
def abj(cls:Value)(E:St->XK)(a:TA):TS:=λ_ σ H=>a σ H λvs H1=>vs.length<=sizeLine/\E σ cls none H1
section
variable{E:St->XK}{B initId:String}{e0:Expr}{rest:List Expr}{ta:TA}{np:Pos}
def lK(FB:ExcBaseFacts B newId initId bmB)(q:W.excIn X.K C bmB newId=true)(m:X.mg x=some (.ref C))(o:Gl X x)(u:X.calm=true)(k:X.ex=[])(R:Rz X E)(v:PA X (e0::rest) ta)(he:starEach (e0::rest) X.env=(false,eval e0 X.env)::starEach rest X.env:=by rfl)(b:(backTo cpos (starEach rest X.env)).any (·.1)=false:=by rfl)(p:(x==("__debug__" :Str))=false:=by decide):
 PS X (.Raise (some (.Call (.Name x np) (e0::rest) [] cpos)) none pos) (abj (.ref C) E ta):=by
 intro a s d H D I h;obtain⟨bm,N,nm,j,bs,hdct,sn,sub,ab,col,dd,k0,k1,k2,k3,k5,mN,z,w,f,T⟩:=ZM I.ok.mod.V7 q
 refine wpAny_Raise_call_subT (k5:=k5) (k3:=k3) (k2:=k2) (k1:=k1) (k0:=k0) (dd:=dd) (col:=col) (ab:=ab) (sub:=sub) (sn:=sn) (hdct:=hdct) (bs:=bs) (q:=j) (nm:=nm)
  (C:=C) (N:=N) (bm:=bm) (mN:=mN) FB (T.hasType FB.hasBase) (I.ok.hd u) (by rw[he];show (false||(backTo cpos (starEach rest X.env)).any (·.1))=false;rw[b];rfl) f (pN I o m ⟨Z,?_⟩ p)
 have i:=v cpos a s d H _ I h;rw[he] at i ⊢;refine Calls.evalArgs_plain (dM i λJ g ⟨G,H1,c,r,n,y⟩=>⟨Z,by rw[←r.length];exact n,c.bk _ _ z,w.keeps c.bk,T.keeps c.bk,λA e mk=>?_⟩);obtain⟨t,l,_,_⟩:=mk.there;have F:Inv X a d H1 {g with heap:=A}:=c.kept (t':=g.toks) mk.keeps;exact R a d H1 _ e (.ref C) none none (.inl rfl) F (c.xfp k mk.new) ⟨_,_,l,Z,Z,Z,Z⟩ y
end
def XO(C:Addr)(a:Option Addr)(e:Addr):HO:= .ext λh=>∃oe vs,h.get? e=some oe/\oe.cls=.ref C/\oe.dict=a/\oe.data=.fields vs
def Ht(X:Cx)(e:Addr):Cx:={X with A:=X.A.mark (some (.ref e)),calm:=false,xe:=λ_ _=>False}
def Ci(X:Cx)(a:zzw)(xe:zzx):Cx:={X with pn:=X.pn++a,xe:=xe}
def Inv.adX(I:Inv X pins σ H s)(xe:zzx):Inv (Ci X pins xe) [] σ H s:=
 ⟨⟨I.ok.mod,I.ok.kind,I.ok.glob,I.ok.blt,I.ok.above,I.ok.inj,I.ok.has,I.ok.cab,I.ok.hd,I.ok.frames,I.ok.stk,I.ok.exf,I.ok.bs,I.ok.Mz,I.ok.GJ,I.ok.JK,I.ok.qe,I.ok.SM⟩,I.os,I.bare,I.base,I.loc,I.cell,I.free,I.jr,
   λp a=>I.pin p (by rw[List.append_nil] at a;exact a),I.hok,I.len⟩
def Inv.Ej{xe:zzx}(I:Inv (Ci X pins xe) pY σ H s):Inv X pins σ H s:=
 ⟨⟨I.ok.mod,I.ok.kind,I.ok.glob,I.ok.blt,I.ok.above,I.ok.inj,I.ok.has,I.ok.cab,I.ok.hd,I.ok.frames,I.ok.stk,I.ok.exf,I.ok.bs,I.ok.Mz,I.ok.GJ,I.ok.JK,I.ok.qe,I.ok.SM⟩,I.os,I.bare,I.base,I.loc,I.cell,I.free,I.jr,
   λp a=>I.pin p (List.mem_append_left _ a),I.hok,I.len⟩
def Inv.TV(I:Inv X pins σ H s)(e:Addr):Inv (Ht X e) pins σ H s:=
 ⟨⟨I.ok.mod,I.ok.kind,I.ok.glob,I.ok.blt,I.ok.above,I.ok.inj,I.ok.has,I.ok.cab,λz=>(by cases z),I.ok.frames,I.ok.stk,I.ok.exf,I.ok.bs,I.ok.Mz,I.ok.GJ,I.ok.JK,I.ok.qe,I.ok.SM⟩,I.os,I.bare,I.base,I.loc,I.cell,I.free,I.jr,
   I.pin,I.hok,I.len⟩
def Inv.GD{e:Addr}(I:Inv (Ht X e) pins σ H s)(a:X.calm=true->X.A.handled=none):Inv X pins σ H s:=
 ⟨⟨I.ok.mod,I.ok.kind,I.ok.glob,I.ok.blt,I.ok.above,I.ok.inj,I.ok.has,I.ok.cab,a,I.ok.frames,I.ok.stk,I.ok.exf,I.ok.bs,I.ok.Mz,I.ok.GJ,I.ok.JK,I.ok.qe,I.ok.SM⟩,I.os,I.bare,I.base,I.loc,I.cell,I.free,I.jr,
   I.pin,I.hok,I.len⟩
def Inv.track{e:Addr}(I:Inv X pins σ H s)(R:X.ex=[])(F:Fo X pins H e)(x:xW s.heap e (.ref C) dx lo fl):Inv X pins σ (upd H e (XO C dx e)) s:=by
 obtain⟨M,L,U,K,J,G⟩:=F;obtain⟨g,l,q,E,f,D⟩:=x.there;have ne:∀b o,H b=some o->b≠e:=λb o r=>aB r M;refine⟨I.ok,I.os,I.bare,⟨I.base.keep,I.base.slot,λb o r n B=>?_,I.base.there,λb j r=>?_,λb o u r=>?_,λb t r=>?_⟩,I.loc,I.cell,?_,λy c r=>?_,λp h=>?_,λa o r=>?_,I.len⟩
 .rw[aF (λz=>by rw[z,K] at r;cases r)]
  exact I.base.free b o r n B
 .have d:=I.base.tups b j r
  rw[aF (ne b _ d)];exact d
 .have d:=I.base.vM b o u r
  rw[aF (ne b _ d)];exact d
 .obtain⟨m,d⟩:=I.base.wI b t r
  exact⟨m,by rw[aF (ne b _ d)];exact d⟩
 .rw[aF (Ne.symm L)];exact I.free
 .rw[aF (J y c r)];exact I.jr y c r
 .obtain⟨P,O,N⟩:=I.pin p h
  exact⟨P,by rw[aF (G p h)];exact O,N⟩
 .by_cases i:a=e
  .subst i
   rw[ao] at r;cases r;exact⟨⟨g,l,q,E,f,D⟩,⟨g,q⟩,λT S ⟨A,v1,w,v⟩ k=>⟨A,v1,k _ w,v⟩⟩
  .rw[aF i] at r
   refine(I.hok a o r).stay (λ_ _ _ z=>z) (λb z=>by rw[aF (ne b _ z)];exact z) λb Q z=>by rw[aF (ne b _ z)];exact z
section
variable{M:Model}{Er:zzx}{e:Addr}
def Jt{b:Bool}{Q:Bool->Shared->Prop}(X:K.In s.heap)(he:s.heap.get? e=some oe)(n:oe.cls=.ref C)(h:(W.clsIn K D).isSome=true)(c:W.typeIn K (.ref D)=some (.type "type"))(o:W.subIn K (.ref D) (.type "BaseException")=some true)(hs:W.subIn K (.ref C) (.ref D)=some b)(i:Q b s):wpAny M A (excMatches (.ref e) (.ref D)) Q Er s:=by
 obtain⟨a,g,d,t,os⟩:=s;have w:W.Looks M a (typeOf (.ref D)) (.type "type"):=W.looks_typeIn X c;have L2:W.Looks M a (isSubtype (.ref D) (.type "BaseException")) true:=W.looks_subIn X o;have v:W.Looks M a (isSubtype (.ref C) (.ref D)) b:=W.looks_subIn X hs
 have u:W.Looks M a (isType (.ref D)) true:=by
  unfold W.clsIn at h;split at h
  .rename_i E B p j m
   intro z r y l k q;unfold isType loadHead;exact aaB (wpAny_loadPart (k _ _ (X _ _ m)) (aaD q))
  .cases h
 have f:=tc_notTuple;unfold excMatches isExcClass isInstance;refine aaB (aaB (w.at ?_));refine wpAny_of_eq f ?_;rw[adp DZ];refine aaB (aaD ?_);simp only[List.forIn_cons,List.forIn_nil];refine aaB (aaB (aaB (aaB (u.at ?_))));rw[adq rfl];refine L2.at ?_;simp only[Bool.not_true,Bool.false_eq_true,if_false];refine aaD (aaD ?_)
 have x:W.Looks M a (typeOf (.ref e)) (.ref C):=by intro z r y l k q;unfold typeOf;refine aaB (wpAny_loadPart (k _ _ he) ?_);rw[n];exact aaD q
 refine aaB (x.at ?_);refine aaB (aaB (aaB (v.at ?_)));cases b with
 | true=>exact aaD (aaD (aaD i))
 | false=>exact aaD (aaD (aaD i))
end
theorem Inv.gone{n:Str}{m:zzv}{v:Option Value}{t:Nat}(I:Inv X pins σ H s)(O:X.N.Nodup)(hi:X.N[i]?=some n)(M:∀(j:Nat)(x:Str)(u:V),X.N[j]?=some x->σ[j]?=some (some u)->Vis X.env.scope x -> ∃d,RelV u d/\Look X.env s.heap m x d)(L:h'.Ns X.env.locals (λx=>if x=n then v else m x))(e:Heap.SameBut X.env.locals s.heap h'):Inv X pins (σ.set i none) H {s with heap:=h',toks:=t}:=by
 have f:∀b o,X.s₀.heap.get? b=some o->b≠X.env.locals:=λb o q=>aa7 (aa_ (aas q) I.ok.above);have cl:∀x c,X.env.cells.lookup x=some c -> ∀d,s.heap.IsCell c d->h'.IsCell c d:=λx c q d ⟨o,K,N⟩=>⟨o,(e.2 c (I.cne x c q)).trans K,N⟩;have Xp:∀b o,H b=some o->b≠X.env.locals:=λb o q=>aB q I.free;refine⟨I.ok,I.os,I.bare,⟨λb o q nn g w=>(e.2 b (f b o q)).trans (I.base.keep b o q nn g w),λb o q nn g w=>?_,I.base.free,λb o q w=>?_,I.base.tups,I.base.vM,I.base.wI⟩,⟨_,L,λj x u E h P=>?_⟩,λx c q=>?_,I.free,I.jr,λp J=>?_,λa o q=>?_,?_⟩
 .obtain⟨F,r⟩:=I.base.slot b o q nn g w
  exact⟨F,(e.2 b (f b o q)).trans r⟩
 .obtain⟨G,r⟩:=I.base.there b o q w
  exact⟨G,(e.2 b (f b o q)).trans r⟩
 .have y:j≠i:=by
   rintro rfl
   by_cases B:j<σ.length
   .rw[List.getElem?_set_self B] at h
    cases h
   .rw[List.getElem?_eq_none (by rw[acF];lia)] at h
    cases h
  rw[List.getElem?_set_ne (Ne.symm y)] at h;obtain⟨d,r,l⟩:=M j x u E h P;refine⟨d,r,?_⟩;have A:x≠n:=λz=>y (Bu O E (by rw[z];exact hi));rcases l with ⟨k,q⟩|⟨k,c,D,z⟩
  .exact .inl ⟨k,by show (if x=n then v else m x)=some d;rw[adp A];exact q⟩
  .exact .inr ⟨k,c,D,cl x c D _ z⟩
 .obtain⟨d,z⟩:=I.cell x c q
  exact⟨d,cl x c q d z⟩
 .obtain⟨q,nn,C,r⟩:=I.pin p J
  exact⟨(e.2 p.1 C).trans q,nn,C,r⟩
 .refine(I.hok a o q).stay (λb u g r=>?_) (λ_ z=>z) λ_ _ z=>z
  rcases g with rfl|g
  .exact(e.2 b (Xp b o q)).trans r
  .exact(e.2 b (Xp b _ g)).trans r
 .show (σ.set i none).length=X.N.length
  rw[acF];exact I.len
def sO{M:Model}{n:Str}{Q:zzu}(I:Inv X pins σ H s)(f:X.N.Nodup)(hi:X.N[i]?=some n)(e:X.env.kindOf n=some .local)(h:∀s',Inv X pins (σ.set i none) H s'->Q () s'):wpAny M A (do bindName X.env n .none;unbindBehindTheSuite X.env n pos) Q E s:=by obtain⟨m,c,d⟩:=I.loc;exact wpAny_nameGoes_keeps e c (by rw[I.ok.kind];rfl) λg v a b=>h _ (I.gone f hi d a b)
def ae_(D:Ends)(i:Nat):Ends:={nx:=λσ H=>D.nx (σ.set i none) H,rt:=D.rt,bk:=λσ H=>D.bk (σ.set i none) H,ct:=λσ H=>D.ct (σ.set i none) H}
def ahu(K:zzy)(i:Nat)(d:Addr)(c:(St->XK)->TS)(b:TS):TS:=λD σ H=>
 c (λa cls dx H1=>∃C,cls=.ref C/\W.subIn K (.ref C) (.ref d)=some true /\ ∀e,H1 e=none->b (ae_ D i) (a.set i (some (.ref e))) (upd H1 e (XO C dx e))) D σ H
structure XHd(K:zzy)(D:Addr):Prop where
 cl:(W.clsIn K D).isSome=true
 ty:W.typeIn K (.ref D)=some (.type "type")
 bs:W.subIn K (.ref D) (.type "BaseException")=some true
section
variable{n:Str}{tb:(St->XK)->TS}{cp:Pos}
theorem abH(hc:X.calm=true)(hx:X.ex=[])(g:X.stack=X.env::X.outer)(R:X.env.frame=some X.env.locals)(L:X.N.Nodup)(hi:X.N[i]?=some n)(w:X.env.kindOf n=some .local)(hg:Gl X cn)(hm:X.mg cn=some (.ref Dc))(V:XHd X.K Dc)(hb:∀(pn:zzw)(xe:zzx)(E:St->XK),PassesOwn (model X.prog X.w) X.A X.env xe->Rz {X with pn:=pn,xe:=xe} E->Ko {X with pn:=pn,xe:=xe} body (tb E))(hh:∀e,Ko (Ht X e) (b0::suite) th)(hd:(cn==("__debug__" :Str))=false:=by decide):
 PS X (.Try body [.ExceptHandler (some (.Name cn cp)) (some n) (b0::suite) hpos] [] [] pos) (ahu X.K i Dc tb th):=by
 intro a s σ H D I h;refine wpAny_Try_except ?_
 refine wpAny_mono (hb (X.pn++a) (λe B=>wpAny (model X.prog X.w) X.A (noteFrame e X.env) (λ_ A=>wpAny (model X.prog X.w) X.A (setFlight e none) (λ_ y=>wpAny (model X.prog X.w) X.A (handleBy e X.env [.ExceptHandler (some (.Name cn cp)) (some n) (b0::suite) hpos]) (SP X a D) X.xe y) X.xe A) X.xe B) _
  PassesOwn.looking ?_ [] s σ H D (I.adX _) h) (λf d q=>?_) λ_ _ q=>q
 .
  intro F c H1 d e cls dx fl S I1 j x hE;obtain⟨C,rfl,G,P⟩:=hE;have lo1:∀b,(b=e\/(Fo (Ci X a X.xe) F H1 b\/d.heap.get? b=none))->Fo (Ci X a X.xe) F H1 b\/d.heap.get? b=none:=λb z=>z.elim (λz=> .inl (by rw[z];exact j)) λz=>z;have Q:X.A.frames=some (X.env::X.outer):=by rw[←g];exact I.ok.frames
  have U:d.heap.FunFrames X.base (X.env::X.outer):=by rw[←g];exact I1.stack
  refine aai (base:=X.base) (lo:=λT=>Fo (Ci X a X.xe) F H1 T\/d.heap.get? T=none) S Q U R (x.imp λT _ z=> .inl z) (λT z=> .inr z) λh1 n1 x1=>?_;refine S8 (fr:=frs (X.env::X.outer)) x1 λh2 n2 x2=>?_;have O:rH (frs X.stack) e (λT=>Fo (Ci X a X.xe) F H1 T\/d.heap.get? T=none) d.heap h2:=by rw[g];exact n1.trans n2
  have I2:Inv X a c H1 {d with heap:=h2}:=(I1.noted O lo1).Ej;refine wpAny_handleBy_cons (codeAny_handlers_test (pN (I2.TV e) hg hm ?_ hd)) ZN;obtain⟨oe,vs,q1,q2,q3,q4⟩:=x2.there;refine Jt (K:=X.K) I2.oO q1 q2 V.cl V.ty V.bs G ?_;rw[adq rfl];refine codeAny_handlers_suite_as ?_;refine S8 (fr:=frs (X.env::X.outer)) x2 λW n3 x3=>?_;have n13:rH (frs X.stack) e (λT=>Fo (Ci X a X.xe) F H1 T\/d.heap.get? T=none) d.heap W:=by rw[g];exact(n1.trans n2).trans n3
  have I3:Inv X a c H1 {d with heap:=W}:=(I1.noted n13 lo1).Ej;have Y:Fo X a H1 e:=⟨j.1,j.2.1,j.2.2.1,j.2.2.2.1,j.2.2.2.2.1,λp hp=>j.2.2.2.2.2 p (List.mem_append_left _ hp)⟩;have I4:Inv X a c (upd H1 e (XO C dx e)) {d with heap:=W}:=I3.track hx Y x3;refine uQ (X:=Ht X e) (I4.TV e) L hi (.inl w) (v:= .ref e) rfl (λs5 I5=>?_) (.inr w);refine wpAny_mono (hh e a s5 _ _ (ae_ D i) I5 (P e j.1)) (λf s6 q6=>?_) λ_ _ z=>z.elim;cases f with
  | next=>
    obtain⟨k,t,o,l⟩:=q6;exact sO (o.GD I.ok.hd) L hi w λM m=>⟨_,t,m,l⟩
  | brk=>
    obtain⟨k,t,o,l⟩:=q6;exact sO (o.GD I.ok.hd) L hi w λM m=>⟨_,t,m,l⟩
  | cont=>
    obtain⟨k,t,o,l⟩:=q6;exact sO (o.GD I.ok.hd) L hi w λM m=>⟨_,t,m,l⟩
  | ret u=>
    obtain⟨v6,k,t,o,N,l⟩:=q6;exact sO (o.GD I.ok.hd) L hi w λM m=>⟨v6,_,t,m,N,l⟩
 .cases f with
  | next=>obtain⟨c,H1,J,r⟩:=q;exact wpAny_execs_nil ⟨c,H1,J.Ej,r⟩
  | brk=>obtain⟨c,H1,J,r⟩:=q;exact⟨c,H1,J.Ej,r⟩
  | cont=>obtain⟨c,H1,J,r⟩:=q;exact⟨c,H1,J.Ej,r⟩
  | ret u=>obtain⟨v,c,H1,J,N,r⟩:=q;exact⟨v,c,H1,J.Ej,N,r⟩
end
def tX{o:Obj}{vs:Array Value}(h:o.data=.fields vs):W.notCls o=true:=by obtain⟨c,d,b,a⟩:=o;simp only at h;subst h;rfl
def XF{e:Addr}{h:Heap}(x:dU P w H h e (XO C none e)):∃ox odo,W.InstAt h e ox C odo:=by obtain⟨⟨a,f,q,d,c,b⟩,_⟩:=x;exact⟨a,none,⟨q,d,tX b,by rw[c];trivial⟩⟩
structure yx(K:zzy)(C D:Addr)(b:Bool):Prop where
 ne:(Value.ref C==Value.ref D)=false
 sub:W.subIn K (.ref C) (.ref D)=some b
def Jy:W.kitOne K (.ref C) (.ref C)=some true:=by unfold W.kitOne;rw[adq MZ]
end L2
namespace L2
open PySem
structure Xr(K:zzy)(mg:zzv)(C:Addr)(nm:Str):Prop where
 bd:mg nm=some (.ref C)
 hd:XHd K C
 xc:W.Xc K C
 ex:W.excIn K C [.type "ValueError",.type "Exception",.type "BaseException",.type "object"] "ValueError.__new__" = true
 ve:W.subIn K (.ref C) (.type "ValueError")=some true
structure Xo(K:zzy)(mg:zzv)(C D:Addr)(nm:Str)(b:Bool):Prop where
 bd:mg nm=some (.ref D)
 hd:XHd K D
 pr:yx K C D b
end L2
namespace L2
open PySem PySem.Spec PyProof.Rows
def Inv.rO(I:Inv X pins σ H s)(f:∀b∈fp,nR X pins H b)(k:∀b o,b∉fp->s.heap.get? b=some o->h'.get? b=some o):Inv X pins σ H {s with heap:=h',toks:=t'}:=by
 have d:∀b u,H b=some u->b∉fp:=λb u e z=>by rw[(f b z).1] at e;cases e
 refine I.step (g':=s.gens) (d':=s.drawn) (ch:=fp) (λb i=>?_) (λb o _ _ a e _=>k b o a e) (λb o _ _ a e _=>⟨o.slots,k b o a e⟩) (λ_ _ _ _ n=>n)
  (λb o a e=>⟨o,k b o a e⟩) (λ_ _ e=>e) (λ_ _ _ e=>e) (λb y e=>⟨#[],by rw[e];simp⟩) (λm h=>?_) (λb u e=>?_) I.bare
 .obtain⟨B,t,A,p,l,j⟩:=f b i
  exact⟨p,t,l,j⟩
 .obtain⟨o,w,x,g,r⟩:=h
  exact⟨o,w,x,k _ o (λz=>(f _ z).2.1 rfl) g,r⟩
 .refine(I.hok b u e).stay (λc v a q=>k c v ?_ q) (λ_ q=>q) λ_ _ q=>q
  rcases a with z|z
  .rw[z];exact d b u e
  .exact d c _ z
def nR.upd{b p:Addr}{o:HO}(h:nR X pins H b)(n:b≠p):nR X pins (upd H p o) b:=by obtain⟨a,r⟩:=h;exact⟨by rw[aF n];exact a,r⟩
def BZ{h:Heap}{o u:Obj}(d:o.isFreed=false)(e:(h.push o).get? b=some u):(b=h.objs.size/\u=o)\/h.get? b=some u:=by
 by_cases c:b=h.objs.size
 .subst c
  rw[aar _ d] at e;exact .inl ⟨Z,(aaY e).symm⟩
 .refine .inr ?_
  have lt:=aas e
  have a:b<h.objs.size:=by
   have:(h.push o).objs.size=h.objs.size+1:=by simp[Heap.push]
   rw[this] at lt;exact Nat.lt_of_le_of_ne (Nat.le_of_lt_succ lt) c
  have:(h.push o).get? b=h.get? b:=by simp only[Heap.get?,Heap.push];rw[Array.getElem?_push_lt a,Array.getElem?_eq_getElem a]
  rw[←this];exact e
def Ite(K:zzy)(l:Addr):It:=⟨λi H=>∃xs x,bF K H l xs/\xs[i]?=some x,λi H x H'=>∃(p:Addr) (y:V),x=.ref p/\H p=none/\(∀xs,bF K H l xs->xs[i]?=some y)/\H'=upd H p (.tup [.int i,y]),λi H=>∃xs,bF K H l xs/\xs.length<=i⟩
theorem Qu(l e it:Addr)(t:e≠it):Turn P w K (.Tuple elts x1 pos) (Ite K l) [e,it] e (λi h=>(∃old,IsEnum h e it i old)/\h.IsListIter it l i) where
 mem:=by simp
 obj:=λi h j b g=>by
  obtain⟨⟨old,f⟩,o,m,c,d⟩:=j;have n:b=e\/b=it:=by simpa using g
  rcases n with rfl|rfl
  .exact⟨_,f,λv z=>by cases z⟩
  .exact⟨o,m,λv z=>by rw[d] at z;cases z⟩
 keep:=λi h h' j k=>by obtain⟨⟨old,f⟩,o,m,c,d⟩:=j;exact⟨⟨old,k e MZ _ f⟩,o,k it MZ _ m,c,d⟩
 item:=by
  intro X Q hw R U i a s S H E I D j M;subst Q hw R;obtain⟨W,x,B,L⟩:=M;obtain⟨G,F,p,hz⟩:=I.list B;obtain⟨u,hu,Y⟩:=F.get L;obtain⟨⟨old,f⟩,C⟩:=j;have elt:=aas f;have J:it<s.heap.objs.size:=by obtain⟨o,m,_⟩:=id C;exact aas m
  refine wpAny_pyNext_enum_item f C p.isList (x:=u) (by simpa using hu) t λh' r hit q a0 hk=>?_;refine⟨_,Z,?_⟩;refine wpAny_letOwnedTupleGo_enum r λh2 O T=>?_;have N:H s.heap.objs.size=none:=I.hok.fresh (aav _)
  have I0:Inv X a S (upd H s.heap.objs.size (.tup [.int i,x])) {s with heap:=s.heap.push {cls:= .type "tuple",data:= .seq #[.int i s.toks,u]}}:=I.laid (t':=s.toks) (λb u e=>aaq _ e) (aav _) ⟨sZ2,[.int i s.toks,u],.cons ⟨_,Z⟩ (.cons Y .nil),⟨_,aar _ rfl,Z,_,Z⟩⟩
  have ne1:e≠s.heap.objs.size:=aa7 elt;have ne2:it≠s.heap.objs.size:=aa7 J
  have y:∀b∈[e,it],nR X a (upd H s.heap.objs.size (.tup [.int i,x])) b:=λb g=>by
   have n:b=e\/b=it:=by simpa using g
   rcases n with rfl|rfl
   .exact(D _ MZ).upd ne1
   .exact(D _ MZ).upd ne2
  have I1:=I0.rO (h':=h2) (t':=s.toks+1) y (λb o g A=>by
   have V:b≠e:=λz=>g (by simp[z]);have b2:b≠it:=λz=>g (by simp[z]);rw[T.2 b V];rcases BZ rfl A with ⟨rfl,rfl⟩|A
   .exact q
   .exact hk b o V b2 A)
  refine⟨.ref s.heap.objs.size,_,I1,Z,⟨s.heap.objs.size,x,Z,N,λys hy=>by rw[I.vD hy B];exact L,Z⟩,⟨⟨u,O⟩,?_⟩,λb g=>(y b g).1⟩;obtain⟨o,m,c,d⟩:=hit;exact⟨o,(T.2 it (Ne.symm t)).trans m,c,d⟩
 done:=by intro X Q hw R U i a s S H E I D j M;subst Q hw R;obtain⟨W,B,L⟩:=M;obtain⟨G,F,p,hz⟩:=I.list B;obtain⟨⟨old,f⟩,C⟩:=j;have hl:=F.length;exact wpAny_pyNext_enum_end (I.ok.hd U) f C p.isList (by simp;lia) λh' A=>⟨Z,I.rO (t':=s.toks) D (λb o g e=>A b o (λz=>g (by simp[z])) e)⟩
 self:=λ_ _ _ _ _ j h=>by obtain⟨⟨old,f⟩,_⟩:=j;exact wpAny_pyIter_enum f h
inductive Px(K:zzy)(R:It->Hp->Prop)(vs:List V)(H1:Hp):Prop|m:∀l xs,vs=[.ref l]->bF K H1 l xs->R (Ite K l) H1->Px K R vs H1
def aeT(K:zzy)(a:TA):TI:=λσ H R=>a σ H λvs H1=>Px K R vs H1
def Hz:bootBuiltins "enumerate" = some (.type "enumerate"):=by kernel_rfl
def Vb{a:Expr}{j:TA}{p:Pos}(B:X.K=K)(y:Gl X "enumerate")(w:X.mg "enumerate" = none)(A:PA X [a] j)(hs:starEach [a] X.env=[(false,eval a X.env)]:=by rfl):PI X (.Tuple elts x1 tpos) (.Call (.Name "enumerate" p) [a] [] pos) (aeT K j):=by
 subst B;intro c s i H R I h;refine Call_ (pO I y w Hz (PyProof.Rows.callWith_type1 (dM (A pos c s i H _ I h) λJ d ⟨G,H1,f,n,q1⟩=>?_) hs rfl));obtain⟨l,F,e,v,q⟩:=q1;subst e;cases n with
 | cons r m=>
   cases m;cases r;obtain⟨t,L,o,M⟩:=f.list v;refine call_enumerate_list o.isList λD k C u x=>?_;refine wpAny_pyIter_enum k ?_;have E:Inv X c i H1 {d with heap:=D}:=f.kept (t':=d.toks) x;refine⟨d.heap.objs.size+1,[d.heap.objs.size+1,d.heap.objs.size],_,_,H1,Z,E,Qu l _ _ MZ,⟨⟨_,k⟩,C⟩,λb z=>?_,q⟩;have g:b=d.heap.objs.size+1\/b=d.heap.objs.size:=by simpa using z
   rcases g with rfl|rfl
   .exact f.vN (Nat.le_succ _) (f.hok.fresh (Nat.le_succ _))
   .exact f.vN (aav _) (f.hok.fresh (aav _))
def Itz(K:zzy)(b a:Addr):It:=
 ⟨λi H=>∃xs ys x y,bF K H b xs/\bF K H a ys/\xs[i]?=some x/\ys[i]?=some y,
  λi H x H'=>∃(p:Addr) (y z:V),x=.ref p/\H p=none/\(∀xs,bF K H b xs->xs[i]?=some y)/\(∀ys,bF K H a ys->ys[i]?=some z)/\H'=upd H p (.tup [y,z]),
  λi H=>∃xs ys,bF K H b xs/\bF K H a ys/\(xs.length<=i\/ys.length<=i)⟩
theorem Tv(z TI TO m l l1 l2:Addr)(ap:ZipApart z TI TO m l l1 l2):Turn P w K (.Tuple elts x1 pos) (Itz K l1 l2) [z,TI,TO,m,l] z
 (λi h=>IsZip h z TI TO .none/\IsPair h TI (.ref m) (.ref l)/\(∃a b,IsPair h TO a b)/\h.IsListIter m l1 i/\h.IsListIter l l2 i) where
 mem:=by simp
 obj:=λi h n b g=>by
  obtain⟨t,d,⟨a,c,f⟩,⟨S,h1,V,Q⟩,⟨R,M,U,O⟩⟩:=n;have B:b=z\/b=TI\/b=TO\/b=m\/b=l:=by simpa using g
  rcases B with rfl|rfl|rfl|rfl|rfl
  .exact⟨_,t,λv z=>by cases z⟩
  .exact⟨_,d,λv z=>by cases z⟩
  .exact⟨_,f,λv z=>by cases z⟩
  .exact⟨_,h1,λv z=>by rw[Q] at z;cases z⟩
  .exact⟨_,M,λv z=>by rw[O] at z;cases z⟩
 keep:=λi h h' n k=>by obtain⟨t,d,⟨a,c,f⟩,⟨S,h1,V,Q⟩,⟨R,M,U,O⟩⟩:=n;exact⟨k z MZ _ t,k TI MZ _ d,⟨a,c,k TO MZ _ f⟩,⟨S,k m MZ _ h1,V,Q⟩,⟨R,k l MZ _ M,U,O⟩⟩
 item:=by
  intro X hP hw hK hc i j s σ H E I hf n hg;subst hP hw hK;obtain⟨xs,ys,x,y,q,p,C,T⟩:=hg;obtain⟨Jz,Yr,p1,a3⟩:=I.list q;obtain⟨F,A,p2,a2⟩:=I.list p;obtain⟨u1,a7,a1⟩:=Yr.get C;obtain⟨Y,a6,a0⟩:=A.get T;obtain⟨t,d,⟨a,c,f⟩,hi1,r⟩:=n;have W:=aas t;have c0:=aas d;have c3:=aas f;have b8:m<s.heap.objs.size:=by obtain⟨o,ho,_⟩:=id hi1;exact aas ho
  have b9:l<s.heap.objs.size:=by obtain⟨o,ho,_⟩:=id r;exact aas ho
  refine wpAny_pyNext_zip_item ap t d f hi1 r p1.isList p2.isList (x:=u1) (y:=Y) (by simpa using a7) (by simpa using a6) λh' a4 b5 b6 J G c5 hk=>?_;refine⟨_,Z,?_⟩;refine wpAny_letOwnedTupleGo_zip a4 λM b7 D=>?_;have b0:H s.heap.objs.size=none:=I.hok.fresh (aav _)
  have I0:Inv X j σ (upd H s.heap.objs.size (.tup [x,y])) {s with heap:=s.heap.push {cls:= .type "tuple",data:= .seq #[u1,Y]}}:=I.laid (t':=s.toks) (λb u e=>aaq _ e) (aav _) ⟨sZ2,[u1,Y],.cons a1 (.cons a0 .nil),⟨_,aar _ rfl,Z,_,Z⟩⟩
  have L:∀b∈[z,TI,TO,m,l],nR X j (upd H s.heap.objs.size (.tup [x,y])) b:=λb g=>by
   refine(hf b g).upd ?_;have B:b=z\/b=TI\/b=TO\/b=m\/b=l:=by simpa using g
   rcases B with rfl|rfl|rfl|rfl|rfl
   .exact aa7 W
   .exact aa7 c0
   .exact aa7 c3
   .exact aa7 b8
   .exact aa7 b9
  have I1:=I0.rO (h':=M) (t':=s.toks) L (λb o g N=>by
   have b1:b≠z:=λe=>g (by simp[e]);have b2:b≠TO:=λe=>g (by simp[e]);have b3:b≠m:=λe=>g (by simp[e]);have b4:b≠l:=λe=>g (by simp[e]);rw[D.2 b b1];rcases BZ rfl N with ⟨rfl,rfl⟩|N
   .exact G
   .exact hk b o b1 b2 b3 b4 N)
  refine⟨.ref s.heap.objs.size,_,I1,Z,⟨s.heap.objs.size,x,y,Z,b0,λys T=>by rw[I.vD T q];exact C,λc4 a5=>by rw[I.vD a5 p];exact T,Z⟩,?_,λb g=>(L b g).1⟩;obtain⟨S,a9,V,Q⟩:=b6;obtain⟨R,a8,U,O⟩:=J;exact⟨b7,(D.2 TI ap.TIz).trans (hk TI _ ap.TIz ap.TITO ap.TIi1 ap.TIi2 d),⟨_,_,(D.2 TO ap.TOz).trans b5⟩,⟨S,(D.2 m ap.i1z).trans a9,V,Q⟩,⟨R,(D.2 l ap.i2z).trans a8,U,O⟩⟩
 done:=by
  intro X hP hw hK hc i j s σ H E I hf n hg;subst hP hw hK;obtain⟨xs,ys,q,p,C⟩:=hg;obtain⟨Jz,Yr,p1,a3⟩:=I.list q;obtain⟨F,A,p2,a2⟩:=I.list p;obtain⟨t,d,⟨a,c,f⟩,hi1,r⟩:=n;have c7:=Yr.length;have c6:=A.length;refine wpAny_pyNext_zip_end (I.ok.hd hc) ap t d f hi1 r p1.isList p2.isList ?_ λh' N=>⟨Z,I.rO (t':=s.toks) hf (λb o g e=>N b o (λz=>g (by simp[z])) (λz=>g (by simp[z])) (λz=>g (by simp[z])) (λz=>g (by simp[z])) e)⟩;rcases C with C|C
  .exact .inl (by simp;lia)
  .exact .inr (by simp;lia)
 self:=λ_ _ _ _ _ n h=>wpAny_pyIter_zip n.1 h
section
variable{Q:VK}{H1:Hp}
def W0(j:xs.length=n)(h:ys.length=n)(c:Nat->St->Hp->Prop)(C:c 0 σ0 (upd H1 D (.lst [])))(w:∀i σ H,i<=n->c i σ H->bF K H l1 xs/\bF K H l2 ys)(hs:∀i x y σ H p,xs[i]?=some x->ys[i]?=some y->c i σ H->H p=none->g (.ref p) σ (upd H p (.tup [x,y])) λa H2=>tc a H2 λb l=>
   if b=true then te a l λy k=>∃f,k D=some (.lst f)/\f.length<sizeLine/\c (i+1) a (upd k D (.lst (f++[y]))) else c (i+1) a l)(B:∀σ H,c n σ H->Q (.ref D) H):iu (Itz K l1 l2) g tc te Q D σ0 H1:=by
 refine⟨λi m σ H=>m=n-i/\i<=n/\c i σ H,⟨n,MZ,Nat.zero_le _,C⟩,?_⟩;rintro i m σ H ⟨rfl,A,p⟩;obtain⟨q1,q2⟩:=w i σ H A p
 by_cases d:i<n
 .refine .inr ⟨⟨xs,ys,xs[i],ys[i],q1,q2,by simp[j,d],by simp[h,d]⟩,c (i+1),λo E q=>⟨n-(i+1),LZ,Z,d,q⟩,λx E y=>?_⟩
  obtain⟨t,z,u,rfl,v,r,s,rfl⟩:=y;exact hs i z u σ _ t (r xs q1) (s ys q2) p v
 .have e:i=n:=by lia
  subst e;exact .inl ⟨⟨xs,ys,q1,q2,.inl LZ⟩,B σ H p⟩
end
section
variable{D:Ends}
def Wo(b:Nat->St->Hp->Prop)(s:b 0 σ H)(n:∀i σ H,i<=xs.length->b i σ H->bF K H a xs)(hs:∀i x σ H p,xs[i]?=some x->b i σ H->H p=none->g (.ref p) σ (upd H p (.tup [.int i,x])) λc H2=>tb {D with nx:=b (i+1),ct:=b (i+1),bk:=D.nx} c H2)(r:∀σ H,b xs.length σ H->D.nx σ H):
 ∃W:Nat->Nat->St->Hp->Prop,(∃m,W 0 m σ H) /\ ∀i m σ H,W i m σ H ->((Ite K a).stop i H/\D.nx σ H)\/((Ite K a).go i H /\ ∃N:St->Hp->Prop,(∀d H',N d H' -> ∃h,h<m/\W (i+1) h d H') /\ ∀x H',(Ite K a).yld i H x H'->g x σ H' λc H2=>tb {D with nx:=N,ct:=N,bk:=D.nx} c H2):=by
 refine⟨λi m σ H=>m=xs.length-i/\i<=xs.length/\b i σ H,⟨xs.length,MZ,Nat.zero_le _,s⟩,?_⟩;rintro i m σ H ⟨rfl,o,p⟩;have q:=n i σ H o p
 by_cases f:i<xs.length
 .refine .inr ⟨⟨xs,xs[i],q,by simp[f]⟩,b (i+1),λd H' j=>⟨xs.length-(i+1),LZ,Z,f,j⟩,λx H' y=>?_⟩
  obtain⟨t,z,rfl,l,k,rfl⟩:=y;exact hs i z σ _ t (k xs q) p l
 .have e:i=xs.length:=by lia
  subst e;exact .inl ⟨⟨xs,q,aav _⟩,r σ H p⟩
end
theorem zV:∀{ns:List Int}{us:zzt},Vals (ns.map V.int) us->IntsAre us ns
 | [],us,r=>by cases r;exact .nil
 | n::ns,us,r=>by
   cases r with
   | cons r rs=>
     obtain⟨t,rfl⟩:=r;exact .cons n t (zV rs)
def YB:V->List V->Hp->VK->Prop:=λx vs H Q=>∃(l:Addr) (ns:List Int) (i:Int),x=.ref l/\vs=[.int i]/\bF X.K H l (ns.map V.int)/\Q (.int (ns.count i)) H
def VP:MtR X "list.count" (YB (X:=X)):=by intro a s k H x m v n Q I b c h;obtain⟨l,o,i,rfl,rfl,j,q⟩:=h;cases b;obtain⟨u,rfl,d⟩:=c.one;obtain⟨t,rfl⟩:=d;obtain⟨g,e,f,p⟩:=I.list j;exact count_list_ints f.isList (zV e) ⟨.int _,H,I.tok _,⟨_,Z⟩,q⟩
theorem Bl(ns:List Int):∀n,n<=ns.length->preSum (λi=>(ns[i]?).getD 0) n=(ns.take n).sum
 | 0,_=>by simp[preSum]
 | n+1,h=>by have a:=Bl ns n LZ;have b:n<ns.length:=h;rw[List.take_succ,List.sum_append,←a];simp[preSum,b]
def ahW(K:zzy):List V->Hp->VK->Prop:=λxs H Q=>∃(p:Addr) (ns:List Int),xs=[.ref p]/\bF K H p (ns.map V.int)/\Q (.int ns.sum) H
theorem xU(S:X.K=K)(R:X.calm=true):jm X (.builtin "sum") (ahW K):=by
 subst S;intro d s F H U W Q I r h;obtain⟨p,c,rfl,O,q⟩:=h;obtain⟨u,rfl,G⟩:=vals1 r;cases G;obtain⟨a,m,l,Y⟩:=I.list O;have e:=zV m;have D:a.length=c.length:=by rw[←m.length,aak]
 refine call_sum_walkG (wpAny_pyIter_list l.isList ⟨s.heap.objs.size,[s.heap.objs.size,p],[s.heap.objs.size],a.length,_,_,λi=>(c[i]?).getD 0,Z,
  zU (show X.A.in1.handled=none from I.ok.hd R) s.heap.objs.size p ?_ a,⟨⟨_,aar _ rfl,Z,Z⟩,?_⟩,?_,?_,?_⟩)
 .intro z
  obtain⟨o,g,_⟩:=l.isList;have:=aas g;rw[←z] at this;exact adk _ this
 .obtain⟨o,g,w⟩:=l.isList
  exact⟨o,aaq _ g,w⟩
 .intro b A
  have n:(s.heap.push {cls:= .type "list_iterator",data:= .fields #[.ref p,.int 0 0]}).objs.size=s.heap.objs.size+1:=by simp[Heap.push]
  have y:b=s.heap.objs.size\/b=p:=by simpa using A
  show b<(s.heap.push _).objs.size;rw[n];rcases y with rfl|rfl
  .exact Nat.lt_succ_self _
  .obtain⟨o,g,_⟩:=l.isList
   exact Nat.lt_succ_of_lt (aas g)
 .intro i v E
  obtain⟨j,P,L⟩:∃j,c[i]?=some j /\ ∃t,v=.int j t:=by have hi:i<a.length:=(aam.mp E).1;have M:=(m.get (i:=i) (x:=V.int (c[i]'LZ)) (by simp[show i<c.length by lia]));obtain⟨u,C,J⟩:=M;rw[E] at C;cases C;obtain⟨t,N⟩:=J;exact⟨c[i]'LZ,by simp[show i<c.length by lia],t,N⟩
  obtain⟨t,rfl⟩:=L;exact⟨t,by simp[P]⟩
 .intro h' B t' k
  rw[Bl c a.length LZ,List.take_of_length_le LZ];have f:=I.vN (H':=H) (b:=s.heap.objs.size) (aav _) (I.hok.fresh (aav _));have T:Inv X d F H {s with heap:=h',toks:=B}:=I.turned (h':=h') (t':=B) (it:=s.heap.objs.size) (λb o A e=>k b o (by simpa using A) (aaq _ e)) f.1 f.2.1 f.2.2.2.1 f.2.2.2.2.1 f.2.2.2.2.2;exact⟨.int _,H,T,⟨_,Z⟩,q⟩
def xH{name id:String}{r:V->List V->Hp->VK->Prop}{o:Expr}{t:TA}(h:X.K=K)(g:PlainAttrs T)(slot:Slot T name id)(f:typeOf (.builtin id)=pure (.type "method_descriptor"))(j:MtR X id r)(i:PE X o to)(k:PA X (e::es) t)(c:attributeBase o name X.env (eval o X.env)=eval o X.env:=by rfl)(d:((backTo cpos (starEach (e::es) X.env)).all (λx=> !x.1)&&(backToKw cpos (keywordEach [] X.env)).all (λx=>x.1.isSome)
   && decide ((e::es).length+([]:List Keyword).length+(if ([]:List Keyword).isEmpty then 0 else 1)<30))=true:=by rfl)(b:(apos.endLine==cpos.line)=true:=by rfl)(hs:starEach (e::es) X.env=(false,eval e X.env)::starEach es X.env:=by rfl)(a:(backTo cpos (starEach es X.env)).any (·.1)=false:=by rfl):
 PE X (.Call (.Attribute o name apos) (e::es) [] cpos) (tBM K T r to t):=by
 subst h;exact aax g slot f j i k c d b hs a
def K8(K:zzy):V->List V->Hp->VK->Prop:=λx vs H Q=>∃(l:Addr) (ns:List Int) (i:Int),x=.ref l/\vs=[.int i]/\bF K H l (ns.map V.int)/\Q (.int (ns.count i)) H
def xJ(h:X.K=K):MtR X "list.count" (K8 K):=by subst h;exact VP
def Gx{t:TGs}(d:X.K=K)(c:X.calm=true)(h:PGs X es t)(b:(assignEach es X.env).length=n:=by rfl)(a:(assignEach es X.env).findIdx? (·.1)=none:=by rfl):PG X (.Tuple es k pos) (Wm K n t):=by subst d;exact abM c h b a
end L2
namespace L2
open PySem
section
variable{Q:VK}{rest:St}{H1:Hp}
def d8{α:Type}(f:Nat->Option α)(n:Nat):(List.range (n+1)).filterMap f=(List.range n).filterMap f++(f n).toList:=by rw[List.range_succ,List.filterMap_append];cases h:f n<;>simp[h]
def uE{α:Type}(f:Nat->Option α)(n:Nat):((List.range n).filterMap f).length<=n:=by have:=List.length_filterMap_le f (List.range n);simpa using this
def Same.newly{H1:Hp}{o:HO}(h:Same H H1)(n:H D=none):Same H (upd H1 D o):=λb u e=>by rw[aF (aB e n)];exact h b u e
def lR(f:Nat->Option V)(m:H1 D=none)(n:bF K H1 a xs)(q:xs.length<=100000)(hs:∀i x H (G:Hp->Prop) (F:VK),xs[i]?=some x->Same H1 H->(∀H',Same H H'->f i=none->G H')->(∀y H',Same H H'->f i=some y->F y H')->tc (some x::rest) H λb h=>if b=true then te (some x::rest) h F else G h)(p:∀H,Same H1 H->H D=some (.lst ((List.range xs.length).filterMap f))->Q (.ref D) H):iu (XD K a) (bV 0) tc te Q D (none::rest) H1:=by
 refine jC (K:=K) (xs:=xs) (λi d H=>(∃v,d=v::rest)/\Same H1 H/\H D=some (.lst ((List.range i).filterMap f))) ⟨⟨none,Z⟩,aH m,ao⟩ (λi d H _ ⟨_,c,_⟩=>c.sqL _ _ n) ?_ (λd H ⟨_,c,e⟩=>p H c e);rintro i x d H l ⟨⟨v,rfl⟩,c,e⟩;have o:i<xs.length:=(aam.mp l).1;refine hs i x H _ _ l c (λh k g=>⟨⟨_,Z⟩,c.trans k,by rw[k _ _ e,d8,g];simp⟩) (λy r j g=>?_);refine⟨_,j _ _ e,?_,⟨_,Z⟩,(c.trans j).newly m,?_⟩
 .have:=uE f i
  rw[sizeLine_eq];lia
 .rw[ao,d8,g];rfl
def RQ(f:Nat->Option V)(m:H1 D=none)(n:H1 a=some (.tup xs))(q:xs.length<=100000)(hs:∀i x H (G:Hp->Prop) (F:VK),xs[i]?=some x->Same H1 H->(∀H',Same H H'->f i=none->G H')->(∀y H',Same H H'->f i=some y->F y H')->tc (some x::rest) H λb h=>if b=true then te (some x::rest) h F else G h)(p:∀H,Same H1 H->H D=some (.lst ((List.range xs.length).filterMap f))->Q (.ref D) H):iu (Itt K a) (bV 0) tc te Q D (none::rest) H1:=by
 refine W2 (K:=K) (xs:=xs) (λi d H=>(∃v,d=v::rest)/\Same H1 H/\H D=some (.lst ((List.range i).filterMap f))) ⟨⟨none,Z⟩,aH m,ao⟩ (λi d H _ ⟨_,c,_⟩=>cC.of (c.tups _ _ n)) ?_ (λd H ⟨_,c,e⟩=>p H c e);rintro i x d H l ⟨⟨v,rfl⟩,c,e⟩;have o:i<xs.length:=(aam.mp l).1;refine hs i x H _ _ l c (λh k g=>⟨⟨_,Z⟩,c.trans k,by rw[k _ _ e,d8,g];simp⟩) (λy r j g=>?_);refine⟨_,j _ _ e,?_,⟨_,Z⟩,(c.trans j).newly m,?_⟩
 .have:=uE f i
  rw[sizeLine_eq];lia
 .rw[ao,d8,g];rfl
def sX(f:Nat->Option V)(k:H1 D=none)(o:n<=100000)(hs:∀i H (G:Hp->Prop) (F:VK),i<n->Same H1 H->(∀H',Same H H'->f i=none->G H')->(∀y H',Same H H'->f i=some y->F y H')->tc (some (.int (0+i))::rest) H λb g=>if b=true then te (some (.int (0+i))::rest) g F else G g)(m:∀H,Same H1 H->H D=some (.lst ((List.range n).filterMap f))->Q (.ref D) H):iu (Xh 0 n) (bV 0) tc te Q D (none::rest) H1:=by
 refine iQ (lo:=0) (n:=n) (λi c H=>(∃v,c=v::rest)/\Same H1 H/\H D=some (.lst ((List.range i).filterMap f))) ⟨⟨none,Z⟩,aH k,ao⟩ ?_ (λc H ⟨_,a,e⟩=>m H a e);rintro i c H l ⟨⟨v,rfl⟩,a,e⟩;refine hs i H _ _ l a (λg j d=>⟨⟨_,Z⟩,a.trans j,by rw[j _ _ e,d8,d];simp⟩) (λy p h d=>?_);refine⟨_,h _ _ e,?_,⟨_,Z⟩,(a.trans h).newly k,?_⟩
 .have:=uE f i
  rw[sizeLine_eq];lia
 .rw[ao,d8,d];rfl
def RP(l:xs.length=n)(k:ys.length=n)(f:Nat->Option V)(w:H1 D=none)(j:bF K H1 l1 xs)(h:bF K H1 l2 ys)(C:n<=100000)(hs:∀i x y H (G:Hp->Prop) (F:VK),xs[i]?=some x->ys[i]?=some y->Same H1 H->(∀H',Same H H'->f i=none->G H')->(∀y H',Same H H'->f i=some y->F y H')->tc (some x::some y::rest) H λb r=>if b=true then te (some x::some y::rest) r F else G r)(B:∀H,Same H1 H->H D=some (.lst ((List.range n).filterMap f))->Q (.ref D) H):iu (Itz K l1 l2) (Wm K 2 (Ey (bV 0) (Ey (bV 1) acM))) tc te Q D (none::none::rest) H1:=by
 refine W0 (K:=K) (xs:=xs) (ys:=ys) l k (λi g H=>(∃u v,g=u::v::rest)/\Same H1 H/\H D=some (.lst ((List.range i).filterMap f))) ⟨⟨none,none,Z⟩,aH w,ao⟩ (λi g H _ ⟨_,a,_⟩=>⟨a.sqL _ _ j,a.sqL _ _ h⟩) ?_ (λg H ⟨_,a,e⟩=>B H a e);rintro i x y g H p d m ⟨⟨u,v,rfl⟩,a,e⟩ z;have c:=aH (o:=HO.tup [x,y]) z;refine⟨p,[x,y],Z,cC.of ao,Z,_,_,Z,_,_,Z,Z,?_⟩;have A:i<xs.length:=(aam.mp d).1;refine hs i x y _ _ _ d m (a.trans c) (λr t q=>⟨⟨_,_,Z⟩,(a.trans c).trans t,by rw[t _ _ (c _ _ e),d8,q];simp⟩) (λy E s q=>?_);refine⟨_,s _ _ (c _ _ e),?_,⟨_,_,Z⟩,((a.trans c).trans s).newly w,?_⟩
 .have:=uE f i
  rw[sizeLine_eq];lia
 .rw[ao,d8,q];rfl
theorem JH{α β:Type}{f g:α->Option β}:∀(l:List α)(_:True)(h:∀x∈l,f x=g x),l.filterMap f=l.filterMap g
 | [],_,_=>rfl
 | x::l,_,h=>by rw[List.filterMap_cons,List.filterMap_cons,h x MZ,JH l trivial λy a=>h y (by simp[a])]
def snocInd{α:Type}{P:List α->Prop}(b:P [])(hs:∀xs x,P xs->P (xs++[x]))(xs:List α):P xs:=by
 rw[←List.reverse_reverse xs]
 induction xs.reverse with
 | nil=>exact b
 | cons x l a=>rw[List.reverse_cons];exact hs _ _ a
def Pz{α β:Type}(xs:List α)(g:α->β):(List.range xs.length).filterMap (λi=>(xs[i]?).map g)=xs.map g:=by
 refine snocInd (P:=λxs=>(List.range xs.length).filterMap (λi=>(xs[i]?).map g)=xs.map g) rfl (λxs x a=>?_) xs
 .show (List.range (xs++[x]).length).filterMap (λi=>((xs++[x])[i]?).map g)=(xs++[x]).map g
  rw[aa1,acj,d8,abd];congr 1
  .rw[←a]
   refine JH _ trivial λi b=>?_;have:i<xs.length:=by simpa using b
   rw[aa6 this]
  .simp
end
def uZ{a b:TS}{D:Ends}(h:∀R:St->Hp->Prop,(∀c H',b D c H'->R c H')->a {D with nx:=R} σ H):Ip a b D σ H:=h _ (λ_ _ x=>x)
def sG{a b:TS}{D:Ends}(P:St->Hp->Prop)(f:∀d:Ends,(∀c H',P c H'->d.nx c H')->d.rt=D.rt->a d σ H)(e:∀c H',P c H'->b D c H'):Ip a b D σ H:=f _ e rfl
end L2
namespace L2
open PySem PySem.Spec PyProof.Rows
section
variable{a:Expr}
def ahv(K:zzy)(a:TE):TT:=λσ H Q=>a σ H λx H'=>∃k,ac5 K x H' k/\Q k H'
def Eh(h:X.K=K)(b:PE X a ta)(he:∀whole,isTrue a X.env whole=(do let v ←whole;standAt a.pos;holding [v] (truthy v)):=by intro _;rfl):PT X a (ahv K ta):=by subst h;exact U5 b he
end
def ael:R2:=λx y H Q=>∃a b,x=.bl a/\y=.bl b/\Q (.bl (!(a==b))) H
def YX:sZ X (compareOp .IsNot) ael:=by intro c s f H x y v u Q I e d h;obtain⟨a,b,rfl,rfl,q⟩:=h;cases e;cases d;exact isnot_bool (cJ I q rfl)
def zm{name id:String}{r:V->List V->Hp->VK->Prop}{o:Expr}(h:X.K=K)(d:PlainAttrs T)(slot:Slot T name id)(c:typeOf (.builtin id)=pure (.type "method_descriptor"))(f:MtR X id r)(e:PE X o to)(b:attributeBase o name X.env (eval o X.env)=eval o X.env:=by rfl)(a:(apos.endLine==cpos.line)=true:=by rfl):PE X (.Call (.Attribute o name apos) [] [] cpos) (aeb K T r to):=by subst h;exact abQ d slot c f e b a
section
variable{Q:VK}{rest:St}{H1:Hp}
def iU{d:PyData}(h:aV H vs ds)(a:Dat H v d):aV H (vs++[v]) (ds++[d]):=aV.append h (by simp only[aV,and_true];exact a)
end
end L2
namespace L2
open PySem
def Gv(mg:zzv)(x:Str)(v:V):Prop:=∃u,mg x=some u/\RelV v u
end L2
namespace L2
open PySem PySem.Spec PyProof.Rows
section
variable{prog:Program}{K:Type}[DecidableEq K]{knd:HeapKind prog w K}
def MK{xs:List (K×Addr×Value)}{k:K}(h:∀(j:Nat)(p:Addr×Value),xs[j]? ≠ some (k,p)):atKey xs k=none:=by unfold atKey;rw[Option.map_eq_none_iff,List.find?_eq_none];intro x a e;obtain⟨j,b⟩:=List.getElem?_of_mem a;have c:x.1=k:=aaQ e;exact h j x.2 (by rw[b,←c])
def MJ{xs:List (K×Addr×Value)}{k:K}{p:Addr×Value}(d:(xs.map (·.1)).Nodup)(h:xs[j]?=some (k,p)):atKey xs k=some p:=by
 unfold atKey
 induction xs generalizing j with
 | nil=>cases h
 | cons x xs c=>
   rw[List.find?_cons];cases j with
   | zero=>
     have:x=(k,p):=by simpa using h
     subst this;simp
   | succ j=>
     have b:xs[j]?=some (k,p):=by simpa using h
     have a:=List.nodup_cons.mp (by simpa using d:(x.1::xs.map (·.1)).Nodup);have ne:¬x.1=k:=λz=>a.1 (by rw[z];exact abE.mpr ⟨(k,p),aaN b,Z⟩);rw[aaP ne];exact c a.2 b
theorem tH{xs:List (K×Addr×Value)}{k:K}{dflt:Value}(v:knd.room A)(r:knd.is s.heap k a)(dd:Heap.DictOfH knd s.heap d xs)(O:xs.length<=sizeLine)(H:∀p,atKey xs k=some p->Q p.2 {s with toks:=s.toks+knd.draws k})(G:atKey xs k=none -> ∀h',Heap.DictOfH knd h' d (xs++[(k,a,dflt)])->Heap.SameBut d s.heap h'->Q dflt {s with heap:=h',toks:=s.toks+knd.draws k}):
 wpAny (model prog w) A (dictSetDefault d (.ref a) dflt) Q E s:=by
 unfold dictSetDefault;refine wpAny_holding (aaB (knd.pyHash v r ?_));obtain⟨o,t,I,c,u,g,i,B,q⟩:=id dd;have P:t.size=xs.length:=by rw[←aaG,i,aak]
 refine aaB (wpAny_dictFind_heap (s:={s with toks:=s.toks+knd.draws k}) v r c g i B q (λf=>?_) (λj p h=>?_))
 .refine aaB (wpAny_rule ?_)
  have an:=MK f;refine aaB (wpAny_updateDictKeys (s:={s with toks:=s.toks+knd.draws k}) c g ?_ LZ MZ);refine aaD ?_;have l:=Heap.SameBut.update s.heap d (Obj.mapDictKeys λx=>x.push {hash:=knd.hash k,key:= .ref a,val:=dflt});refine G an _ ?_ l;obtain⟨N,M,L,D⟩:=o;simp only at g;subst g;refine⟨_,t.push {hash:=knd.hash k,key:= .ref a,val:=dflt},I+1,Heap.get?_update_self _ c ?_,u,Z,?_,?_,?_⟩
  .obtain⟨C,S,R⟩:=u
   simp only at C;subst C;rfl
  .rw[Array.toList_push,i,abd];rfl
  .intro x b
   rcases abA.mp b with b|b
   .exact knd.keeps (B x b) c rfl l
   .have:x=(k,a,dflt):=by simpa using b
    subst this;exact knd.keeps r c rfl l
  .rw[abd]
   refine List.nodup_append.mpr ⟨q,MZ,?_⟩;intro y F z m e;have:z=k:=by simpa using m
   subst this;subst e;obtain⟨x,n,rfl⟩:=abE.mp F;obtain⟨j,h⟩:=List.getElem?_of_mem n;exact f j x.2 h
 .refine aaB (wpAny_dictEntries (s:={s with toks:=s.toks+knd.draws k}) c g ?_)
  have J:t[j]?=some (entryOfKey knd (k,p)):=by rw[←Array.getElem?_toList,i,aap,h];rfl
  rw[J];exact aaB (wpAny_rule (aaD (H p (MJ q h))))
theorem vC(knd:HeapKind prog w K)(d a:Addr)(r:(d==sysModules)=false)(dflt:Value):MeetsIn prog w (Builtin.«dict.setdefault» {pos:=[.ref d,.ref a,dflt]}) λA R s=>
 knd.room A.in1 /\ ∃k xs,knd.is s.heap k a/\Heap.DictOfH knd s.heap d xs/\xs.length<=sizeLine/\(∀p,atKey xs k=some p->R (.ok (.ret p.2)) {s with toks:=s.toks+knd.draws k}) /\(atKey xs k=none -> ∀h',Heap.DictOfH knd h' d (xs++[(k,a,dflt)])->Heap.SameBut d s.heap h'->R (.ok (.ret dflt)) {s with heap:=h',toks:=s.toks+knd.draws k}):=by
 rintro A R s ⟨j,k,xs,q,e,g,u,t⟩;obtain⟨o,z,B,m,h,c,_⟩:=id e;unfold Builtin.«dict.setdefault»;have i:s.TypeIs (.ref d) "dict" :=⟨o,m,h.1⟩;refine aaB ?_;unfold Builtin.Dict.keyAndDefault;refine aaB ?_;unfold Builtin.Dict.notOrdered;rw[adq DZ];refine aaB (wpAny_typeOf i ?_);rw[adp DZ];refine aaD ?_;refine aaB ?_;unfold Builtin.Dict.nameIsSure;rw[adp (by show ¬(false=true);decide)];refine aaD ?_;refine aaB ?_;unfold selfAndSome noKeywords;refine aaB ?_;rw[adq oZR];refine aaD ?_;show wpAny (model prog w) A.in1 (checkCount "setdefault" 1 2 2 >>= λ_=>pure (Value.ref d,[Value.ref a,dflt])) _ _ s;refine aaB ?_;have y:checkCount "setdefault" 1 2 2=pure ():=Z;rw[y];refine aaD (aaD ?_);show wpAny (model prog w) A.in1 (Builtin.Dict.addrOf (.ref d) >>= λx=>pure (x,Value.ref a,some dflt)) _ _ s;refine aaB (aaD (aaD ?_));show wpAny (model prog w) A.in1 (if (d==sysModules)=true then _ else (dictSetDefault d (.ref a) dflt >>= λv=>ret v)) _ _ s;rw[adp (by rw[r];decide)];refine aaB (tH j q e g (λp l=>aaD (u p l)) (λn h' b f=>aaD (t n h' b f)))
end
section
variable{o f:Expr}{td ty tx:TE}
def abm(e ty d:TE):TE:=λσ H Q=>e σ H λx H1=>∃a,x=.ref a/\IsD H1 a/\ty σ H1 λy H2=>d σ H2 λz c=>∃kvs k b,c a=some (.dT kvs)/\y=.ref b/\c b=some (.tup (k.map kV))/\kvs.length<sizeLine /\(∀v,gq kvs k=some v->Q v c)/\(gq kvs k=none->Q z (upd c a (.dT (putK kvs k z))))
theorem Vf(hu:X.A.units+1<cLine)(ho:PE X o td)(he:PE X e ty)(hf:PE X f tx)(m:M2 X o "setdefault" apos e f cpos):PE X (.Call (.Attribute o "setdefault" apos) [e,f] [] cpos) (abm td ty tx):=by
 intro i s r H Q I h;refine wpAny_Call_method m.base m.few m.line F.plainAttrs_dict F.slot_dict_setdefault F.type_dict_setdefault (dM (ho i s r H _ I h) λu V iy=>?_);obtain⟨x,H1,P,Y,a,ex,d,q1⟩:=iy;subst ex;obtain rfl:u=Value.ref a:=Y;obtain⟨t1,S,_⟩:=V_ P d;refine⟨t1,S,?_⟩;rw[m.trees]
 refine Calls.callWith_builtin rfl (Calls.evalArgs_plain (Calls.spliced_cons (dM (he i V r H1 _ P q1) λiv U ⟨y,H2,I2,W,q2⟩=>
  Calls.spliced_cons (dM (hf i U r H2 _ I2 q2) λA s3 ⟨z,R,n,E,g,k,b,C,ey,N,hl,q3,q4⟩=>Calls.spliced_nil ?_))))
 subst ey;cases (show iv=Value.ref b from W);obtain⟨hz,L,l,rel,O⟩:=afm n.hok C;have t:l.length<=sizeLine:=by rw[←Paired.length rel];exact hz
 have j:=rel.val k;refine call_meetsIn F.slot_dict_setdefault O.typeIs F.entry_dict_setdefault (F.args_dict_setdefault_3 _ _ _) (vC (tupleKind (fX X.prog X.w)) a b L A) ⟨tupleKind_room_in1 hu,k,l,Ly n.hok N,O,t,λp hp=>?_,λK h' D T=>?_⟩
 .rw[hp] at j
  cases lv:gq g k with
  | none=>rw[lv] at j;exact adt j (by simp[nM])
  | some v=>
    rw[lv] at j;exact⟨v,R,n.tok _,j,q3 v lv⟩
 .rw[K] at j
  have lv:gq g k=none:=by
   cases lv:gq g k with
   | none=>rfl
   | some v=>rw[lv] at j;exact adt j (by simp[nM])
  have w:(putK g k z).length<=sizeLine:=by have:=yq g k z;lia
  obtain⟨q,es,ep,J,h2,h3,h4,_,h5⟩:=D;have B:storedH l k b A=l++[(k,b,A)]:=by unfold storedH;rw[K];rfl
  have G:=rel.put k N E;rw[B] at G;refine⟨z,upd R a (.dT (putK g k z)),Z1 (ob:= .dT (putK g k z)) n (by rw[C];exact True.intro) T ⟨q,J⟩ ⟨w,L,_,G.keeps λc ys M=>?_,q,es,ep,J,h2,h3,h4,h5⟩,E,q4 lv⟩;rw[aF (dG M C (λz=>nomatch z))];exact M
end
def aer(K:zzy):V->V->Hp->VK->Prop:=λx y H Q=>∃p xs i v,x=.ref p/\y=.int i/\bF K H p xs/\0<=i/\xs[i.toNat]?=some v/\Q v H
def La(h:X.K=K):afG X (aer K):=by subst h;intro b s u H o i x y Q I e f h;obtain⟨p,d,k,v,rfl,rfl,m,j,c,q⟩:=h;cases e;obtain⟨t,rfl⟩:=f;obtain⟨l,r,g,z⟩:=I.list m;obtain⟨w,n,a⟩:=r.get c;have B:=r.length;have A:=ur;have:k.toNat<d.length:=(aam.mp c).1;exact getItem_listL g.isList j LZ n ⟨v,H,I,a,q⟩
end L2
namespace L2
open PySem
def JQ{r:V->List V->Hp->VK->Prop}{t:TA}{D:Ends}(P:V->Hp->Prop)(c:∀a:VK,(∀v H',P v H'->a v H')->to σ H a)(b:∀v H',P v H'->tyV K T v H'/\t σ H' λxs H2=>r v xs H2 λ_ d=>D.nx σ d):Uc (tBM K T r to t) D σ H:=c _ b
end L2
namespace L2
open PySem PySem.Spec PyProof.Rows
def cat:List Str->Str
 | []=>Str.empty
 | x::xs=>x++cat xs
section
variable{tb:(St->XK)->TS}{cp:Pos}
end
def afN(i j:Int):Prop:=0<j/\j<1329227995784915872903807060280344576
def Jg:sZ X (binaryOp .FloorDiv) (rI afN λi j=> .int (i / j)):=opI λi j _ _ _ _ _ a q=>by
 have f:(0:Int)<j:=a.1;have e:j<1329227995784915872903807060280344576:=a.2;refine floordiv_int LZ (by rw[Int.fdiv_eq_ediv_of_nonneg i LZ];exact q) (.inl ?_);unfold Builtin.divisionGoesByPylong;have c:j.natAbs<2 ^ 120:=by lia
 have d:j.natAbs.log2<120:=(Nat.log2_lt LZ).mpr c
 have b:(j==0)=false:=by rw[beq_eq_false_iff_ne];lia
 simp only[b,Bool.false_eq_true,if_false];have:¬j.natAbs.log2 / 30+1>300:=by lia
 rw[aaP this,Bool.false_and]
section
variable{u u':HO}
end
section
variable{o:Obj}{kvs:List (Key×V)}{Q:VK}{rest:St}{H1:Hp}
end
def Xg(hi:Int)(n:Nat):It:=⟨λi _=>i<n,λi H x H'=>H'=H/\x=.int (hi-i),λi _=>n<=i⟩
def Io(it:Addr)(hi:Int)(n:Nat):Turn P w K tg (Xg hi n) [it] it (λi h=>IsRangeIter h it (hi+(i:Nat)*(-1)) ((n:Int)-(i:Nat)) (-1)) where
 mem:=by simp
 obj:=λi h a b d=>by
  have e:b=it:=by simpa using d
  subst e
  exact⟨_,a,λv z=>by have D:Data.fields _=Data.cell v:=z;cases D⟩
 keep:=λi h j a k=>k it MZ _ a
 item:=by intro X p hw q m i c s B H E I g a l;subst p hw q;obtain⟨A,y,J,x,u,r⟩:=g it MZ;have W:=Walks.range (prog:=X.prog) (w:=X.w) (I.ok.hd m) it hi (-1) n;refine W.item i s _ _ l a λv j C G f F=>?_;obtain⟨t,rfl⟩:=G;have M:Inv X c B H {s with heap:=j,toks:=C}:=I.turned (λb o d e=>F b o (by simpa using d) e) A y x u r;refine⟨_,Z,Ew (s:={s with heap:=j,toks:=C}) (n:= "range_iterator") f rfl rfl DZ ⟨.int (hi-i),H,M,⟨t,?_⟩,⟨Z,Z⟩,f,λb d=>(g b d).1⟩⟩;congr 1;lia
 done:=by intro X p hw q m i c s B H E I g a l;subst p hw q;obtain⟨A,y,J,x,u,r⟩:=g it MZ;exact wpAny_pyNext_range_end (I.ok.hd m) a (by have:n<=i:=l;lia) λj L=>⟨Z,I.turned (t':=s.toks) (λb o d e=>L b o d e) A y x u r⟩
 self:=λ_ _ _ _ _ a h=>wpAny_pyIter_rangeiter a h
def Mh{hi:Int}{D:Ends}(d:Nat->St->Hp->Prop)(l:d 0 σ H)(hs:∀i σ H,i<n->d i σ H->g (.int (hi-i)) σ H λa H2=>tb {D with nx:=d (i+1),ct:=d (i+1),bk:=D.nx} a H2)(k:∀σ H,d n σ H->D.nx σ H):
 ∃W:Nat->Nat->St->Hp->Prop,(∃m,W 0 m σ H) /\ ∀i m σ H,W i m σ H ->((Xg hi n).stop i H/\D.nx σ H)\/((Xg hi n).go i H /\ ∃N:St->Hp->Prop,(∀b H',N b H' -> ∃f,f<m/\W (i+1) f b H') /\ ∀x H',(Xg hi n).yld i H x H'->g x σ H' λa H2=>tb {D with nx:=N,ct:=N,bk:=D.nx} a H2):=by
 refine⟨λi m σ H=>m=n-i/\i<=n/\d i σ H,⟨n,MZ,Nat.zero_le _,l⟩,?_⟩;rintro i m σ H ⟨rfl,j,p⟩
 by_cases c:i<n
 .refine .inr ⟨c,d (i+1),λb H' h=>⟨n-(i+1),LZ,Z,c,h⟩,λx H' y=>?_⟩
  obtain⟨e,y⟩:=y;subst e y;exact hs i σ _ c p
 .have e:i=n:=by lia
  subst e;exact .inl ⟨aav _,k σ H p⟩
def J_:bootBuiltins "reversed" = some (.type "reversed"):=by kernel_rfl
mutual
theorem Dat.same(k:Same H H'):∀(d:PyData){v:V},Dat H v d->Dat H' v d
 | .none,_,h=>by simp only[Dat] at h ⊢;exact h
 | .bool _,_,h=>by simp only[Dat] at h ⊢;exact h
 | .int _,_,h=>by simp only[Dat] at h ⊢;exact h
 | .str _,_,h=>by simp only[Dat] at h ⊢;exact h
 | .list ds,_,h=>by simp only[Dat] at h ⊢;obtain⟨a,vs,e,q,r⟩:=h;exact⟨a,vs,e,k _ _ q,aV.same k ds r⟩
 | .tuple ds,_,h=>by simp only[Dat] at h ⊢;obtain⟨a,vs,e,q,r⟩:=h;exact⟨a,vs,e,k _ _ q,aV.same k ds r⟩
 | .dict _,_,h=>by simp only[Dat] at h
theorem aV.same(k:Same H H'):∀(ds:List PyData){vs:List V},aV H vs ds->aV H' vs ds
 | [],[],_=>by simp only[aV]
 | d::ds,v::vs,h=>by simp only[aV] at h ⊢;exact⟨Dat.same k d h.1,aV.same k ds h.2⟩
 | _::_,[],h=>by simp only[aV] at h
 | [],_::_,h=>by simp only[aV] at h
end
def qW(K:zzy):W.kitOne K (.type "tuple") (.type "list")=some false:=by kernel_rfl
def lN(K:zzy):W.kitOne K (.type "list") (.type "tuple")=some false:=by kernel_rfl
section
variable{Q:VK}{rest:St}{H1:Hp}
theorem G4{f:Nat->Option PyData}(a:∀i d,f i=some d->CV d=true):∀l:List Nat,qX (l.filterMap f)=true
 | []=>rfl
 | i::l=>by
   rw[List.filterMap_cons];cases e:f i with
   | none=>exact G4 a l
   | some d=>simp only[qX,a i d e,G4 a l,Bool.and_self]
def R_(f:Nat->Option PyData)(p:∀i d,f i=some d->CV d=true)(q:H1 D=none)(t:bF K H1 a xs)(B:xs.length<=100000)(hs:∀i x H (G:Hp->Prop) (F:VK),xs[i]?=some x->Same H1 H->(∀H',Same H H'->f i=none->G H')->(∀y d H',Same H H'->f i=some d->Dat H' y d->F y H')->tc (some x::rest) H λb m=>if b=true then te (some x::rest) m F else G m)(w:∀H vs,Same H1 H->H D=some (.lst vs)->aV H vs ((List.range xs.length).filterMap f)->Q (.ref D) H):iu (XD K a) (bV 0) tc te Q D (none::rest) H1:=by
 refine jC (K:=K) (xs:=xs) (λi g H=>(∃v,g=v::rest)/\Same H1 H /\ ∃vs,H D=some (.lst vs)/\aV H vs ((List.range i).filterMap f)) ⟨⟨none,Z⟩,aH q,[],ao,by simp[aV]⟩ (λi g H _ ⟨_,c,_⟩=>c.sqL _ _ t) ?_ (λg H ⟨_,c,vs,e,d⟩=>w H vs c e d);rintro i x g H o ⟨⟨v,rfl⟩,c,vs,e,d⟩;have u:i<xs.length:=(aam.mp o).1;have im:=G4 p (List.range i);refine hs i x H _ _ o c (λm l k=>⟨⟨_,Z⟩,c.trans l,vs,l _ _ e,?_⟩) (λy A r j k z=>?_)
 .rw[d8,k]
  simpa using aV.keep l.tups _ im d
 .have C:vs.length<=i:=by rw[d.length];exact uE f i
  have s:Kp D r (upd r D (.lst (vs++[y]))):=Kp.set;have n:=s.tups (j _ _ e);refine⟨vs,j _ _ e,?_,⟨_,Z⟩,(c.trans j).newly q,vs++[y],ao,?_⟩
  .rw[sizeLine_eq];lia
  .rw[d8,k]
   exact iU (aV.keep (λa xs h=>n _ _ (j.tups _ _ h)) _ im d) (Dat.keep n _ (p i A k) z)
end
inductive UL(x y:V)(H:Hp)(Q:VK):Prop|m:∀a b xs ys,x=.ref a->y=.ref b->H a=some (.tup xs)->H b=some (.tup ys)->xs.length+ys.length<=sizeLine->(∀p H',H' p=some (.tup (xs++ys))->Same H H'->Q (.ref p) H')->UL x y H Q
def Vj:sZ X (binaryOp .Add) UL:=by
 intro m s P H x y v u Q I M L h;obtain⟨a,b,J,G,rfl,rfl,D,C,t,q⟩:=h;cases M;cases L;obtain⟨d,j,r,_⟩:=I.tuple (cC.of D);obtain⟨c,i,p,_⟩:=I.tuple (cC.of C)
 by_cases k:d=[]
 .obtain⟨⟨cls,O,data,K⟩,w,B,n,A⟩:=id r
  obtain⟨⟨E,l,data2,g⟩,e,f,N,hd2⟩:=id p;simp only at B A f hd2;subst B A f hd2
  exact concat_meets ⟨_,w,Z⟩ ⟨_,e,Z⟩ noFill_tuple_add seq_tuple_add F.slot_tuple_add F.entry_tuple_add (F.args_tuple_add_2 _ _)
   (tuple_addW0 a b d.toArray c.toArray n N O l K g (by simp[k])) ⟨w,e,⟨.ref b,H,I,Z,q b H (by rw[C,j.O7.mp k];rfl) (Same.refl _)⟩⟩
 refine HT.Z4 r p k (λz=>⟨.ref a,H,I,Z,q a H (by rw[D,i.O7.mp z,List.append_nil]) (Same.refl _)⟩) (λz=>?_) (by rw[←j.length,←i.length];exact t);have fr:=I.hok.fresh (aav s.heap.objs.size);refine⟨.ref s.heap.objs.size,_,I.laid (t':=s.toks) (o:= .tup (J++G)) (λb R q=>aaq _ q) (aav _) ?_,Z,q _ _ ao (aH fr)⟩;exact⟨by rw[aa1];exact t,_,j.append i,IsTup.new _ _⟩
def eU.aa8(r:eU k A):A.in1.units+64<cLine:=by have:=r.un;show A.units+1+64<_;lia
section
variable{st:Expr}
end
mutual
theorem Dat.fn:∀(d e:PyData){v:V},Dat H v d->Dat H v e->d=e
 | .none,e,v,h,g=>by cases e<;>simp only[Dat] at h g<;>first |rfl|(subst h;first |(obtain⟨_,_,z,_⟩:=g;cases z;done)|(cases g;done))
 | .bool _,e,v,h,g=>by cases e<;>simp only[Dat] at h g<;>first |(subst h;first |(injection g with g;rw[g];done)|(obtain⟨_,_,z,_⟩:=g;cases z;done)|(cases g;done))
 | .int _,e,v,h,g=>by cases e<;>simp only[Dat] at h g<;>first |(subst h;first |(injection g with g;rw[g];done)|(obtain⟨_,_,z,_⟩:=g;cases z;done)|(cases g;done))
 | .str _,e,v,h,g=>by cases e<;>simp only[Dat] at h g<;>first |(subst h;first |(injection g with g;rw[g];done)|(obtain⟨_,_,z,_⟩:=g;cases z;done)|(cases g;done))
 | .list ds,.list es,v,h,g=>by
   simp only[Dat] at h g;obtain⟨a,vs,rfl,f,i⟩:=h;obtain⟨b,j,e,c,db⟩:=g;injection e with e
   subst e;rw[f] at c;injection c with c
   injection c with c
   subst c;rw[aV.fn ds es i db]
 | .tuple ds,.tuple es,v,h,g=>by
   simp only[Dat] at h g;obtain⟨a,vs,rfl,f,i⟩:=h;obtain⟨b,j,e,c,db⟩:=g;injection e with e
   subst e;rw[f] at c;injection c with c
   injection c with c
   subst c;rw[aV.fn ds es i db]
 | .list ds,.tuple es,v,h,g=>by
   simp only[Dat] at h g;obtain⟨a,vs,rfl,f,i⟩:=h;obtain⟨b,j,e,c,db⟩:=g;injection e with e
   subst e;rw[f] at c;injection c with c
   cases c
 | .tuple ds,.list es,v,h,g=>by
   simp only[Dat] at h g;obtain⟨a,vs,rfl,f,i⟩:=h;obtain⟨b,j,e,c,db⟩:=g;injection e with e
   subst e;rw[f] at c;injection c with c
   cases c
 | .list ds,.none,v,h,g=>by simp only[Dat] at h g;obtain⟨a,vs,rfl,_⟩:=h;cases g
 | .list ds,.bool _,v,h,g=>by simp only[Dat] at h g;obtain⟨a,vs,rfl,_⟩:=h;cases g
 | .list ds,.int _,v,h,g=>by simp only[Dat] at h g;obtain⟨a,vs,rfl,_⟩:=h;cases g
 | .list ds,.str _,v,h,g=>by simp only[Dat] at h g;obtain⟨a,vs,rfl,_⟩:=h;cases g
 | .tuple ds,.none,v,h,g=>by simp only[Dat] at h g;obtain⟨a,vs,rfl,_⟩:=h;cases g
 | .tuple ds,.bool _,v,h,g=>by simp only[Dat] at h g;obtain⟨a,vs,rfl,_⟩:=h;cases g
 | .tuple ds,.int _,v,h,g=>by simp only[Dat] at h g;obtain⟨a,vs,rfl,_⟩:=h;cases g
 | .tuple ds,.str _,v,h,g=>by simp only[Dat] at h g;obtain⟨a,vs,rfl,_⟩:=h;cases g
 | .list ds,.dict _,v,h,g=>by simp only[Dat] at g
 | .tuple ds,.dict _,v,h,g=>by simp only[Dat] at g
 | .dict _,_,v,h,g=>by simp only[Dat] at h
theorem aV.fn:∀(ds es:List PyData){vs:List V},aV H vs ds->aV H vs es->ds=es
 | [],[],_,_,_=>rfl
 | d::ds,e::es,v::vs,h,g=>by simp only[aV] at h g;rw[Dat.fn d e h.1 g.1,aV.fn ds es h.2 g.2]
 | [],_::_,[],_,g=>by simp only[aV] at g
 | [],_::_,_::_,h,_=>by simp only[aV] at h
 | _::_,[],[],h,_=>by simp only[aV] at h
 | _::_,[],_::_,_,g=>by simp only[aV] at g
 | _::_,_::_,[],h,_=>by simp only[aV] at h
end
section
variable{e1 e2 l:Expr}{t1 t2 tl:TE}
end
end L2
namespace L2
open PySem PySem.Spec PyProof.Rows PySem.Builtin PySem.Builtin.Str
def Its(x:Str):It:=⟨λi _=>i<x.cps.size,λi H v H'=>H'=H /\ ∃c,x.cps[i]?=some c/\v=.str ⟨#[c]⟩,λi _=>x.cps.size<=i⟩
theorem Tw(x:Str)(t:Tok)(it:Addr):Turn P w K tg (Its x) [it] it (λi h=>i<=x.cps.size/\(h.IsStrIter it "str_ascii_iterator" x t i\/h.IsStrIter it "str_iterator" x t i)) where
 mem:=by simp
 obj:=λi h a b f=>by
  have e:b=it:=by simpa using f
  subst e;rcases a.2 with ⟨o,e,c,d⟩|⟨o,e,c,d⟩
  .exact⟨o,e,λv z=>by rw[d] at z;cases z⟩
  .exact⟨o,e,λv z=>by rw[d] at z;cases z⟩
 keep:=λi h l a k=>⟨a.1,a.2.imp (λ⟨o,e,r⟩=>⟨o,k it MZ o e,r⟩) (λ⟨o,e,r⟩=>⟨o,k it MZ o e,r⟩)⟩
 item:=by
  intro X J hw L G i j s B H E I n a F;subst J hw L;have D:i<x.cps.size:=F;have m:x.cps[i]?=some x.cps[i]:=by simp[D]
  obtain⟨A,y,O,u,q,p⟩:=n it MZ;rcases a.2 with a|a
  .refine wpAny_pyNext_ascii_item a m λl g C=>?_
   have N:Inv X j B H {s with heap:=l,toks:=s.toks+1}:=I.turned (t':=s.toks+1) (λb o f e=>(C.2 b f).trans e) A y u q p;obtain⟨o,e,c,d⟩:=id g;exact⟨_,Z,Ew (s:={s with heap:=l,toks:=s.toks+1}) e c d DZ ⟨.str ⟨#[x.cps[i]]⟩,H,N,⟨_,Z⟩,⟨Z,_,m,Z⟩,⟨D,.inl g⟩,λb f=>(n b f).1⟩⟩
  .refine wpAny_pyNext_wide_item a m λl g C=>?_
   have N:Inv X j B H {s with heap:=l,toks:=s.toks+1}:=I.turned (t':=s.toks+1) (λb o f e=>(C.2 b f).trans e) A y u q p;obtain⟨o,e,c,d⟩:=id g;exact⟨_,Z,Ew (s:={s with heap:=l,toks:=s.toks+1}) e c d DZ ⟨.str ⟨#[x.cps[i]]⟩,H,N,⟨_,Z⟩,⟨Z,_,m,Z⟩,⟨D,.inr g⟩,λb f=>(n b f).1⟩⟩
 done:=by
  intro X J hw L G i j s B H E I n a F;subst J hw L;have m:x.cps[i]?=none:=by simpa using (show x.cps.size<=i from F)
  obtain⟨A,y,O,u,q,p⟩:=n it MZ;rcases a.2 with a|a
  .exact wpAny_pyNext_ascii_end (I.ok.hd G) a m λl M=>⟨Z,I.turned (t':=s.toks) (λb o f e=>M b o f e) A y u q p⟩
  .exact wpAny_pyNext_wide_end (I.ok.hd G) a m λl M=>⟨Z,I.turned (t':=s.toks) (λb o f e=>M b o f e) A y u q p⟩
 self:=λ_ _ _ _ _ a h=>a.2.elim (λa=>wpAny_pyIter_striter_ascii a h) (λa=>wpAny_pyIter_striter_wide a h)
def ajd(b:TE):TI:=λσ H R=>b σ H λx H1=>∃a,x=.str a/\R (Its a) H1
def abL{l:Expr}{j:TE}(p:PE X l j):PI X tg l (ajd j):=by
 intro d s i H R I h;refine dM (p d s i H _ I h) λv c n=>?_;obtain⟨x,H1,g,m,q1⟩:=n;obtain⟨a,rfl,q⟩:=q1;obtain⟨t,rfl⟩:=m
 have f:∀o,(c.heap.push o).IsStrIter c.heap.objs.size "str_ascii_iterator" a t 0\/(c.heap.push o).IsStrIter c.heap.objs.size "str_iterator" a t 0->PIE X d i tg R (.ref c.heap.objs.size) {c with heap:=c.heap.push o}:=by
  intro o k;refine⟨c.heap.objs.size,[c.heap.objs.size],_,_,H1,Z,g.kept (t':=c.toks) λb o e=>aaq _ e,Tw a t _,⟨Nat.zero_le _,k⟩,λb r=>?_,q⟩;have e:b=c.heap.objs.size:=by simpa using r
  subst e;exact g.vN (aav _) (g.hok.fresh (aav _))
 cases ha:a.cps.all (· < 128)
 .exact wpAny_pyIter_wide ha (f _ (.inr ⟨_,aar _ rfl,Z,Z⟩))
 .exact wpAny_pyIter_ascii ha (f _ (.inl ⟨_,aar _ rfl,Z,Z⟩))
section
variable{Q:VK}{rest:St}{H1:Hp}
def RW(f:Nat->St->Hp->Prop)(r:f 0 σ0 (upd H1 D (.lst [])))(hs:∀i c σ H,x.cps[i]?=some c->f i σ H->g (.str ⟨#[c]⟩) σ H λa H2=>tc a H2 λb k=>
   if b=true then te a k λy j=>∃d,j D=some (.lst d)/\d.length<sizeLine/\f (i+1) a (upd j D (.lst (d++[y]))) else f (i+1) a k)(o:∀σ H,f x.cps.size σ H->Q (.ref D) H):iu (Its x) g tc te Q D σ0 H1:=by
 refine⟨λi m σ H=>m=x.cps.size-i/\i<=x.cps.size/\f i σ H,⟨x.cps.size,MZ,Nat.zero_le _,r⟩,?_⟩;rintro i m σ H ⟨rfl,t,p⟩
 by_cases h:i<x.cps.size
 .refine .inr ⟨h,f (i+1),λl s n=>⟨x.cps.size-(i+1),LZ,Z,h,n⟩,λy s e=>?_⟩
  obtain⟨e,c,q,rfl⟩:=e;subst e;exact hs i c σ _ q p
 .have e:i=x.cps.size:=by lia
  subst e;exact .inl ⟨aav _,o σ H p⟩
theorem RV(f:Nat->Option V)(m:H1 D=none)(p:x.cps.size<=100000)(hs:∀i c H (G:Hp->Prop) (F:VK),x.cps[i]?=some c->Same H1 H->(∀H',Same H H'->f i=none->G H')->(∀y H',Same H H'->f i=some y->F y H')->tc (some (.str ⟨#[c]⟩)::rest) H λb h=>if b=true then te (some (.str ⟨#[c]⟩)::rest) h F else G h)(o:∀H,Same H1 H->H D=some (.lst ((List.range x.cps.size).filterMap f))->Q (.ref D) H):iu (Its x) (bV 0) tc te Q D (none::rest) H1:=by
 refine RW (λi d H=>(∃v,d=v::rest)/\Same H1 H/\H D=some (.lst ((List.range i).filterMap f))) ⟨⟨none,Z⟩,aH m,ao⟩ ?_ (λd H ⟨_,a,e⟩=>o H a e);rintro i c d H l ⟨⟨v,rfl⟩,a,e⟩;have n:i<x.cps.size:=(Array.getElem?_eq_some_iff.mp l).1;refine hs i c H _ _ l a (λh k g=>⟨⟨_,Z⟩,a.trans k,by rw[k _ _ e,d8,g];simp⟩) (λy q j g=>?_);refine⟨_,j _ _ e,?_,⟨_,Z⟩,(a.trans j).newly m,?_⟩
 .have:=uE f i
  rw[sizeLine_eq];lia
 .rw[ao,d8,g];rfl
end
end L2
namespace L2
open PySem PySem.Spec PyProof.Rows
section
variable(P:Program)(w:World)(K:zzy)(mg:zzv)(base:Heap)
def MethAt(k:Nat)(C:Addr)(m:Str)(ps:List Str)(sp:Sp):Prop:=∃f fd,bN P w K mg base ig k f fd ps sp/\Meth K C m f/\Binds K fd ps []
def jM(k:Nat)(C:Addr)(m:Str)(ps:List Str)(sp:Sp):Prop:=∃f fd,bN P w K mg base (tM P w) k f fd ps sp/\Meth K C m f/\Binds K fd ps []
def rJ(k:Nat)(C:Addr)(x:Str)(ps:List Str)(rm:List V)(sp:Sp):Prop:=∃f fd ds,bN P w K mg base ig k f fd ps sp/\Mk K C f/\mg x=some (.ref C)/\Binds K fd ps ds/\Vals rm ds
def v7(k:Nat)(C:Addr)(x:Str)(ps:List Str)(rm:List V)(sp:Sp):Prop:=∃f fd ds,bN P w K mg base (tM P w) k f fd ps sp/\Mk K C f/\mg x=some (.ref C)/\Binds K fd ps ds/\Vals rm ds
def aae(k:Nat)(C:Addr)(x:Str)(ps:List Str)(a:Str)(sp:Sp):Prop:=∃f fd,bN P w K mg base (tM P w) k f fd ps sp/\Mk K C f/\mg x=some (.ref C) /\∀(s:Shared)(us:zzt)(z:Value),K.In s.heap->(us++[z]).length=ps.length->BindsTo s fd ⟨us,[(a,z)]⟩ (ps.zip (us++[z]))
end
section
variable{mg:zzv}{m:Str}
def bN.calm(G:bN P w K mg base (tM P w) k f fd ps sp):bN P w K mg base ig k f fd ps (λvs H Q _=>sp vs H Q λ_ _ _=>False):=by
 refine⟨λvs H Q E q=>G.len vs H Q _ q,λA a s H args d vs Q E i j c g h=>?_⟩;refine codeAny_mono (G.run A a s H args d vs Q (λ_ _ _=>False) i j c g h) λres l b=>?_
 match res,b with
 | .error ev,b=>
   obtain⟨e,cls,m,n,_,_,_,_,_,_,_,_,z⟩:=b;exact z.elim
 | .ok (.ret u),b=>exact b
theorem jM.calm(F:jM P w K mg base k C m ps sp):MethAt P w K mg base k C m ps (λvs H Q _=>sp vs H Q λ_ _ _=>False):=by obtain⟨f,a,G,r⟩:=F;exact⟨f,a,G.calm,r⟩
theorem v7.calm(F:v7 P w K mg base k C x ps rm sp):rJ P w K mg base k C x ps rm (λvs H Q _=>sp vs H Q λ_ _ _=>False):=by obtain⟨f,a,b,G,r⟩:=F;exact⟨f,a,b,G.calm,r⟩
end
section
variable{m:Str}{o:Expr}{t:TA}{p:Pos}{E:St->XK}
def cu{pl:Sem Bool}(M:MethAt X.prog X.w X.K X.mg X.base k C m ps sp)(c:Cls X.K C)(g:eU k X.A)(he:PE X o ta)(j:PA X (e::es) t)(a:starEach (e::es) X.env=(false,eval e X.env)::starEach es X.env:=by rfl)(hpl:(backTo pos (starEach es X.env)).any (·.1)=false:=by rfl)(d:eval (.Call (.Attribute o m apos) (e::es) [] pos) X.env=(do
   let b ←eval o X.env
   standAt apos.atName
   let (f,first) ←holding [b] (getMethod b m pl)
   callWith pos f first (backTo pos (starEach (e::es) X.env)) (backToKw pos (keywordEach [] X.env))):=by rfl):
 PE X (.Call (.Attribute o m apos) (e::es) [] pos) (Iv C m sp [] E0 ta t):=by
 obtain⟨f,l,G,h,i⟩:=M;exact YQ he c h G g i .nil Jf j a hpl d
def bU{pl:Sem Bool}(M:MethAt X.prog X.w X.K X.mg X.base k C m ps sp)(c:Cls X.K C)(d:eU k X.A)(he:PE X o ta)(b:eval (.Call (.Attribute o m apos) [] [] pos) X.env=(do
   let a ←eval o X.env
   standAt apos.atName
   let (f,first) ←holding [a] (getMethod a m pl)
   callWith pos f first (backTo pos (starEach [] X.env)) (backToKw pos (keywordEach [] X.env))):=by rfl):
 PE X (.Call (.Attribute o m apos) [] [] pos) (Iv C m sp [] E0 ta wJ):=by
 obtain⟨f,h,G,e,g⟩:=M;exact Ve he c e G d g .nil Jf b
inductive Iu(C:Addr)(m:Str)(sp:Sp)(E:St->XK)(t:TA)(σ:St)(Q:VK)(x:V)(H1:Hp):Prop|m:∀a dx fs,x=.ref a->H1 a=some (.ins C dx fs)->fs.lookup m=none->(t σ H1 λvs H2=>sp (x::vs) H2 Q (E σ))->Iu C m sp E t σ Q x H1
def abl(C:Addr)(m:Str)(sp:Sp)(E:St->XK)(a:TE)(t:TA):TE:=λσ H Q=>a σ H λx H1=>Iu C m sp E t σ Q x H1
def Yt{Q:VK}(G:bN X.prog X.w X.K X.mg X.base (tM X.prog X.w) k f fd ps sp)(d:X.ex=[])(R:Rz X E)(e:eU k X.A)(g:Binds X.K fd ps [])(I:Inv X pins σ H s)(r:Vals vs us)(q:sp vs H Q (E σ)):wpAny (model X.prog X.w) X.A (call (.ref f) us) (EP X pins σ Q) X.xe s:=by
 have b:us.length=ps.length:=by rw[←r.length];exact G.len _ _ _ _ q
 have c:=g s us I.oO (by rw[List.append_nil];exact b);rw[List.append_nil] at c;refine wpAny_call (codeAny_mono (G.run X.A X.stack s H ⟨us,[]⟩ us vs Q (E σ) e I.env0 c r q) λres h a=>?_)
 match res,a with
 | .error ev,a=>exact Ot d R I a
 | .ok (.ret u),a=>exact I.after a
def oE{pl:Sem Bool}(M:jM X.prog X.w X.K X.mg X.base k C m ps sp)(c:Cls X.K C)(y:X.ex=[])(R:Rz X E)(A:eU k X.A)(he:PE X o ta)(D:PA X (e::es) t)(d:starEach (e::es) X.env=(false,eval e X.env)::starEach es X.env:=by rfl)(hpl:(backTo pos (starEach es X.env)).any (·.1)=false:=by rfl)(z:eval (.Call (.Attribute o m apos) (e::es) [] pos) X.env=(do
   let i ←eval o X.env
   standAt apos.atName
   let (f,first) ←holding [i] (getMethod i m pl)
   callWith pos f first (backTo pos (starEach (e::es) X.env)) (backToKw pos (keywordEach [] X.env))):=by rfl):
 PE X (.Call (.Attribute o m apos) (e::es) [] pos) (abl C m sp E ta t):=by
 obtain⟨f,L,G,j,B⟩:=M;intro b s g H Q I h;refine W.methodCall_KW (pl:=pl) (dM (he b s g H _ I h) λu v ⟨x,H1,p,w,a,N,K,ex,F,l,q⟩=>?_) z;subst ex;obtain rfl:u=Value.ref a:=w;refine uD p F c j l ?_;refine W.callWith_K (first:=[.ref a]) (h₀:=X.base) I.ok.mod.V7 j.kp (dM (D pos b v g H1 _ p q) λus J ⟨vs,H2,n,r,q2⟩=>⟨n.oO,?_⟩) d hpl;exact Yt (us:= .ref a::us) (vs:= .ref a::vs) G y R A B n (.cons rfl r) q2
def oF(M:rJ X.prog X.w X.K X.mg X.base k C x ps rm sp)(a:eU (k+1) X.A)(c:Gl X x)(h:PA X (e::es) t)(hdb:(x==("__debug__" :Str))=false:=by decide)(he:starEach (e::es) X.env=(false,eval e X.env)::starEach es X.env:=by rfl)(hpl:(backTo pos (starEach es X.env)).any (·.1)=false:=by rfl):
 PE X (.Call (.Name x p) (e::es) [] pos) (aan C sp rm E0 t):=by
 obtain⟨f,i,j,G,mk,b,g,d⟩:=M;exact YS mk G a c b g d Jf h hdb he hpl
end
end L2
namespace L2
open PySem PySem.Spec PyProof.Rows PySem.Builtin PySem.Builtin.Str
section
variable{o:Expr}{f:Str}
def bf(b:X.K=K)(he:PE X e ta)(a:attributeBase e f X.env (eval e X.env)=eval e X.env):PE X (.Attribute e f pos) (ad' K ta f):=by subst b;exact abP he a
def dz(c:X.K=K)(b:PE X o ta)(a:PE X value tv)(hs:swapsWith value (some (.Attribute o f pos')) pos.line X.env=pure false):PS X (.Assign [.Attribute o f pos'] value pos) (aei K ta tv f):=by subst c;exact abI b a hs
def Bk(d:X.K=K)(c:PE X o ta)(b:PE X value tv)(a:afL X op rd):PS X (.AugAssign (.Attribute o f tpos) op value pos) (Oe K ta tv rd f):=by subst d;exact QJ c b a
def aep:V->List V->Hp->VK->Prop:=λx vs H Q=>∃(a y:Str) (i:Nat) (r:List Nat),x=.str a/\vs=[.str y]/\occurrences a y 0 a.length 1=i::r/\Q (.int i) H
def El:MtR X "str.index" aep:=by intro b s j H x k v l Q I d e h;obtain⟨a,y,i,r,rfl,rfl,g,q⟩:=h;obtain⟨t,rfl⟩:=d;obtain⟨u,rfl,f⟩:=e.one;obtain⟨c,rfl⟩:=f;exact call_meets F.slot_str_index (typeIs_str _ _ _) F.entry_str_index (F.args_str_index_2 _ _) (gives_str_index a y t c i r g).meets ⟨.int i,H,I.tok _,⟨_,Z⟩,q⟩
end
structure aaf(K:zzy)(x qual:Str)(st:Stmt)(ds:zzt)(f:Addr)(fd:zzs):Prop where
 ex:∃(oc:Value) (od:Option Addr) (T:Addr) (kV doc pm:Value) (an:Option Addr) (cdv ct:Value) (osl:Array (Option Value)) (tc:Value) (td:Option Addr) (tn:Nat) (QB:Array (Option Value)),
  fd=W.fnOf x qual (d9 st) (gG st) (aN st) (.ref T) kV doc pm an cdv ct/\K.lookup f=some ⟨oc,od,.func fd,osl⟩/\W.codeIn K cdv qual=true/\K.lookup T=some ⟨tc,td,.seq ds.toArray tn,QB⟩
 kp:W.keepIn K (.ref f)=true
section
variable{mg:zzv}
def aaf.Xv{ds:zzt}(F:aaf K x qual st ds f fd)(S:aY N ps (aN st))(len:∀vs H Q E,sp vs H Q E->vs.length=ps.length)(a:∀(cdv:Value)(A:Around)(outer:List Env)(s:Shared)(H:Hp)(vs:List V)(Q:VK)(E:XK),eU k (A.deeper (envOfC qual (aN st) s.heap.objs.size f cdv))->sp vs H Q E ->Rz (qg (tM P w) P w K mg base N qual (aN st) f cdv A outer s H E) (λ_=>E) ->∃t,Ko (qg (tM P w) P w K mg base N qual (aN st) f cdv A outer s H E) (gG st) t/\t {nx:=λ_ H'=>Q .non H',rt:=Q} (start N vs) H):bN P w K mg base (tM P w) (k+1) f fd ps sp:=by obtain⟨m,l,T,kV,doc,pm,an,cdv,n,d,j,i,h,o,rfl,e,c,_⟩:=F.ex;exact Wq e c S len λA outer s H vs Q E g b=>a cdv A outer s H vs Q E g b Jb
end
section
variable{kn:Str}{ke:Expr}{t:TA}{p kpos:Pos}{E:St->XK}
end
end L2
namespace L2
open PySem PySem.Spec PyProof.Rows
section
variable{prog:Program}{ep:Nat}{od:Obj}{es:Array DictEntry}
end
section
variable{o:Obj}{Q:VK}{rest:St}{H1:Hp}
end
section
variable{prog:Program}
end
end L2
namespace L2
open PySem
abbrev Tg:=Addr->List Nat
def aQ(τ:Tg)(x:Addr)(t:List Nat):Tg:=λy=>if y=x then t else τ y
def bC{τ:Tg}{x:Addr}{t:List Nat}:aQ τ x t x=t:=adq rfl
def aR{τ:Tg}{x y:Addr}{t:List Nat}(h:y≠x):aQ τ x t y=τ y:=adp h
def rF(τ:Tg)(H:Hp):Prop:=∀x,H x=none->τ x=[]
def rF.dom{τ:Tg}(u:rF τ H)(d:∀x,H' x=none->H x=none):rF τ H':=λx e=>u x (d x e)
def rF.same{τ:Tg}(u:rF τ H)(k:Same H H'):rF τ H':=u.dom λ_ e=>k.free e
def rF.claim{τ:Tg}{t:List Nat}(u:rF τ H)(k:Same H H')(a:∃o,H' p=some o):rF (aQ τ p t) H':=λx e=>by
 have n:x≠p:=λz=>by obtain⟨o,b⟩:=a;rw[z,b] at e;cases e
 rw[aR n];exact u.same k x e
def eV{τ:Tg}{s t:List Nat}(d:τ a=s)(c:τ b=t)(h:s≠t):a≠b:=λe=>h (by rw[←d,←c,e])
structure k_(i:Nat)(τ:Tg)(H H':Hp):Prop where
 keep:∀x o,H x=some o->(τ x).head?≠some i->H' x=some o
 tup:∀x xs,H x=some (.tup xs)->H' x=some (.tup xs)
 dom:∀x,H' x=none->H x=none
def k_.of_same{τ:Tg}(k:Same H H'):k_ i τ H H':=⟨λx o e _=>k _ _ e,λx a e=>k _ _ e,λx e=>k.free e⟩
def k_.trans{τ:Tg}{H1 H2:Hp}(a:k_ i τ H H1)(b:k_ i τ H1 H2):k_ i τ H H2:=⟨λx o e n=>b.keep _ _ (a.keep _ _ e n) n,λx c e=>b.tup _ _ (a.tup _ _ e),λx e=>a.dom _ (b.dom _ e)⟩
def k_.set{τ:Tg}{x:Addr}{o u:HO}(b:(τ x).head?=some i)(a:H x=some o)(c:∀xs,o ≠ .tup xs):k_ i τ H (upd H x u):=by
 refine⟨λy v e n=>?_,λy xs e=>?_,λy e=>?_⟩
 .have z:y≠x:=λz=>n (by rw[z];exact b)
  rw[aF z];exact e
 .rw[aF (dG e a λz=>c xs z.symm)];exact e
 .by_cases z:y=x
  .rw[z,ao] at e;cases e
  .rw[aF z] at e;exact e
def k_.un{τ:Tg}(a:k_ i τ H H')(u:rF τ H):rF τ H':=u.dom a.dom
structure Mv(i:Nat)(τ:Tg)(H:Hp)(τ':Tg)(H':Hp):Prop where
 keep:∀x o,H x=some o->τ x=[0]\/(τ x).head?=some i->H' x=some o/\τ' x=τ x
 tup:∀x xs,H x=some (.tup xs)->H' x=some (.tup xs)
def Mv.of_same{τ:Tg}(k:Same H H'):Mv i τ H τ H':=⟨λx o e _=>⟨k _ _ e,Z⟩,λx a e=>k _ _ e⟩
def Mv.tags{τ a:Tg}(k:Same H H')(t:∀x o,H x=some o->a x=τ x):Mv i τ H a H':=⟨λx o e _=>⟨k _ _ e,t x o e⟩,λx b e=>k _ _ e⟩
def Mv.claim{τ:Tg}{t:List Nat}(k:Same H H')(a:H p=none):Mv i τ H (aQ τ p t) H':= .tags k λx o e=>aR (aB e a)
def Mv.dJ{τ:Tg}(k:k_ j τ H H')(h:j≠i)(a:j≠0):Mv i τ H τ H':=⟨λx o e t=>⟨k.keep _ _ e (by
 rcases t with t|t
 .rw[t];intro z;exact a (aaY z).symm
 .rw[t];intro z;exact h (aaY z).symm),Z⟩,k.tup⟩
end L2
variable{τ τ' τ0 τ1 τ2:L2.Tg}
namespace Prf
open PySem L2
inductive SX where
 | num (n:Int)
 | box (b:Nat)
 deriving DecidableEq
inductive Ku where
 | one (x:SX)
 | two (p:Bool) (x y:SX)
 deriving DecidableEq
inductive Rw where
 | load (b c:Nat)
 | store (c:Nat) (e:Ku)
 | swap (b c:Nat) (e:Ku)
 | yL (b:Nat) (e:Ku)
 | say (e:Ku)
 | go (k:Nat)
 | Dd (q:Bool) (e f:Ku) (k:Nat)
 deriving DecidableEq
def vX(b:Nat):Str:=⟨#[97+b]⟩
def DP:SX->PyData
 | .num n=> .tuple [.str "number",.int n]
 | .box b=> .tuple [.str "box",.str (vX b)]
def oR:Ku->PyData
 | .one x=>DP x
 | .two p x y=> .tuple [.str (if p then "plus" else "minus"),DP x,DP y]
def ou:Rw->PyData
 | .load b c=> .tuple [.str "load",.str (vX b),.int c]
 | .store c e=> .tuple [.str "store",.int c,oR e]
 | .swap b c e=> .tuple [.str "swap",.str (vX b),.int c,oR e]
 | .yL b e=> .tuple [.str "let",.str (vX b),oR e]
 | .say e=> .tuple [.str "say",oR e]
 | .go k=> .tuple [.str "go",.int k]
 | .Dd q e f k=> .tuple [.str "unless",.str (if q then "=" else "<"),oR e,oR f,.int k]
def Tn:SX->Prop
 | .num n=>0<=n/\n<1000
 | .box b=>b<8
def xQ:Ku->Prop
 | .one x=>Tn x
 | .two _ x y=>Tn x/\Tn y
def Jc(m:Nat):Rw->Prop
 | .load b c=>b<8/\c<m
 | .store c e=>c<m/\xQ e
 | .swap b c e=>b<8/\c<m/\xQ e
 | .yL b e=>b<8/\xQ e
 | .say e=>xQ e
 | .go _=>True
 | .Dd _ e f _=>xQ e/\xQ f
def LR:∀x:SX,CV (DP x)=true
 | .num _=>rfl
 | .box _=>rfl
def xM:∀e:Ku,CV (oR e)=true
 | .one x=>LR x
 | .two p x y=>by simp only[oR,CV,qX,LR,Bool.and_self]
def G5:∀r:Rw,CV (ou r)=true
 | .load _ _=>rfl
 | .store _ e=>by simp only[ou,CV,qX,xM,Bool.and_self]
 | .swap _ _ e=>by simp only[ou,CV,qX,xM,Bool.and_self]
 | .yL _ e=>by simp only[ou,CV,qX,xM,Bool.and_self]
 | .say e=>by simp only[ou,CV,qX,xM,Bool.and_self]
 | .go _=>rfl
 | .Dd _ e f _=>by simp only[ou,CV,qX,xM,Bool.and_self]
def fZ{d:PyData}(h:aV H vs (d::ds)):∃v ws,vs=v::ws/\Dat H v d/\aV H ws ds:=by
 cases vs with
 | nil=>exact h.elim
 | cons v ws=>exact⟨v,ws,Z,h.1,h.2⟩
def kj(h:aV H vs []):vs=[]:=by
 cases vs with
 | nil=>rfl
 | cons v a=>exact h.elim
theorem aaV{x:SX}(h:Dat H v (DP x)):∃t,v=.ref t/\H t=some (.tup (match x with | .num n=>[.str "number",.int n] | .box b=>[.str "box",.str (vX b)])):=by
 cases x<;>simp only[DP,Dat] at h<;>obtain⟨t,i,rfl,e,d⟩:=h<;>refine⟨t,Z,?_⟩<;>rw[e] <;>
 .obtain⟨_,_,rfl,f,a⟩:=fZ d
  obtain⟨_,_,rfl,c,g⟩:=fZ a;cases kj g;cases f;cases c;rfl
def ac3{p:Bool}{x y:SX}(h:Dat H v (oR (.two p x y))):∃t a b,v=.ref t/\H t=some (.tup [.str (if p then "plus" else "minus"),a,b])/\Dat H a (DP x)/\Dat H b (DP y):=by simp only[oR,Dat] at h;obtain⟨t,k,rfl,e,d⟩:=h;obtain⟨_,_,rfl,i,c⟩:=fZ d;obtain⟨_,_,rfl,g,j⟩:=fZ c;obtain⟨_,_,rfl,f,Ie⟩:=fZ j;cases kj Ie;cases i;exact⟨t,_,_,Z,e,g,f⟩
def Parts(H:Hp)(vs:List V):Rw->Prop
 | .load b c=>vs=[.str "load",.str (vX b),.int c]
 | .store c e=>∃x,vs=[.str "store",.int c,x]/\Dat H x (oR e)
 | .swap b c e=>∃x,vs=[.str "swap",.str (vX b),.int c,x]/\Dat H x (oR e)
 | .yL b e=>∃x,vs=[.str "let",.str (vX b),x]/\Dat H x (oR e)
 | .say e=>∃x,vs=[.str "say",x]/\Dat H x (oR e)
 | .go k=>vs=[.str "go",.int k]
 | .Dd q e f k=>∃x y,vs=[.str "unless",.str (if q then "=" else "<"),x,y,.int k]/\Dat H x (oR e)/\Dat H y (oR f)
theorem Qf{r:Rw}(h:Dat H v (ou r)):∃t vs,v=.ref t/\H t=some (.tup vs)/\Parts H vs r:=by
 cases r<;>simp only[ou,Dat] at h<;>obtain⟨t,vs,rfl,e,d⟩:=h<;>refine⟨t,vs,Z,e,?_⟩<;>obtain⟨_,_,rfl,l,j⟩:=fZ d<;>cases l<;>obtain⟨_,_,rfl,b,f⟩:=fZ j
 .obtain⟨_,_,rfl,a,Ie⟩:=fZ f
  cases kj Ie;cases b;cases a;rfl
 .obtain⟨_,_,rfl,a,Ie⟩:=fZ f
  cases kj Ie;cases b;exact⟨_,Z,a⟩
 .obtain⟨_,_,rfl,a,Ie⟩:=fZ f
  obtain⟨_,_,rfl,g,c⟩:=fZ Ie;cases kj c;cases b;cases a;exact⟨_,Z,g⟩
 .obtain⟨_,_,rfl,a,Ie⟩:=fZ f
  cases kj Ie;cases b;exact⟨_,Z,a⟩
 .cases kj f
  exact⟨_,Z,b⟩
 .cases kj f
  cases b;rfl
 .obtain⟨_,_,rfl,a,Ie⟩:=fZ f
  obtain⟨_,_,rfl,g,c⟩:=fZ Ie;obtain⟨_,_,rfl,k,i⟩:=fZ c;cases kj i;cases b;cases k;exact⟨_,_,Z,a,g⟩
def v1(bs:List Int):SX->Int
 | .num n=>n % 1000
 | .box b=>(bs[b]?).getD 0
def vx(bs:List Int):Ku->Int
 | .one x=>v1 bs x
 | .two true x y=>(v1 bs x+v1 bs y) % 1000
 | .two false x y=>(v1 bs x-v1 bs y) % 1000
structure bJ where
 (rws:List Rw) (pos:Nat) (bs sy:List Int) (st:Str)
def touch:Rw->Bool
 | .load _ _=>true
 | .store _ _=>true
 | .swap _ _ _=>true
 | _=>false
def xO(bs:List Int):Rw->Bool
 | .Dd true e f _=>decide (vx bs e=vx bs f)
 | .Dd false e f _=>decide (vx bs e<vx bs f)
 | _=>false
def yu(s:bJ):Rw->bJ
 | .yL b e=>{s with pos:=s.pos+1,bs:=s.bs.set b (vx s.bs e)}
 | .say e=>{s with pos:=s.pos+1,sy:=s.sy++[vx s.bs e]}
 | .go k=>{s with pos:=k}
 | .Dd q e f k=>{s with pos:=if xO s.bs (.Dd q e f k) then s.pos+1 else k}
 | _=>s
def led:Nat->bJ->bJ
 | 0,s=>match s.rws[s.pos]? with
   | none=>{s with st:= "ends" }
   | some r=>if touch r then {s with st:= "waits" } else {s with st:= "lost" }
 | n+1,s=>match s.rws[s.pos]? with
   | none=>{s with st:= "ends" }
   | some r=>if touch r then {s with st:= "waits" } else led n (yu s r)
def lead(s:bJ):bJ:=led 60 s
def E_(s:bJ)(r:Rw):(yu s r).rws=s.rws:=by cases r<;>rfl
def JR(s:bJ)(r:Rw):(yu s r).sy.length<=s.sy.length+1:=by cases r<;>simp[yu]
theorem vG:∀(n:Nat)(s:bJ),(led n s).rws=s.rws
 | 0,s=>by
   unfold led;split
   .rfl
   .split<;>rfl
 | n+1,s=>by
   unfold led;split
   .rfl
   .split
    .rfl
    .rw[vG,E_]
theorem Lw:∀(n:Nat)(s:bJ),(led n s).sy.length<=s.sy.length+n
 | 0,s=>by
   unfold led;split
   .simp
   .split<;>simp
 | n+1,s=>by
   unfold led;split
   .simp
   .split
    .simp
    .rename_i r _ _
     have:=Lw n (yu s r);have:=JR s r;lia
def tG(s:bJ):Prop:=s.st = "waits" -> ∃r,s.rws[s.pos]?=some r/\touch r=true
def PB:(Str.ofString "ends")≠Str.ofString "waits" :=by decide +kernel
def Zm:(Str.ofString "lost")≠Str.ofString "waits" :=by decide +kernel
theorem Lx:∀(n:Nat)(s:bJ),tG (led n s)
 | 0,s=>by
   unfold led tG;split
   .intro z;exact adt z PB
   .rename_i r e
    split
    .intro _;exact⟨r,e,by assumption⟩
    .intro z;exact adt z Zm
 | n+1,s=>by
   unfold led;split
   .intro z;exact adt z PB
   .rename_i r e
    split
    .intro _;exact⟨r,e,by assumption⟩
    .exact Lx n _
def new(a:List Rw):bJ:=⟨a,0,List.replicate 8 0,[],"waits"⟩
structure dD where
 (m:Nat) (ns:List Int) (hs:List bJ) (ts:List Int)
def je:Rw->Nat
 | .load _ c=>c
 | .store c _=>c
 | .swap _ c _=>c
 | _=>0
def tO:Rw->Str
 | .load _ _=> "load"
 | .store _ _=> "store"
 | .swap _ _ _=> "swap"
 | .yL _ _=> "let"
 | .say _=> "say"
 | .go _=> "go"
 | .Dd _ _ _ _=> "unless"
def Bf(ns:List Int):Rw->Option Int
 | .load _ c=>ns[c]?
 | .swap _ c _=>ns[c]?
 | _=>none
def Ng(bs:List Int):Rw->Option Int
 | .store _ e=>some (vx bs e)
 | .swap _ _ e=>some (vx bs e)
 | _=>none
def oV:Option Int->V
 | none=> .non
 | some i=> .int i
def oD:Option Int->PyData
 | none=> .none
 | some i=> .int i
def zY(ns bs:List Int)(r:Rw):List V:=[.str (tO r),.int (je r),oV (Bf ns r),oV (Ng bs r)]
def uG(ns bs:List Int):Rw->List Int
 | .load b c=>bs.set b ((ns[c]?).getD 0)
 | .swap b c _=>bs.set b ((ns[c]?).getD 0)
 | _=>bs
def dW(ns bs:List Int):Rw->List Int
 | .store c e=>ns.set c (vx bs e)
 | .swap _ c e=>ns.set c (vx bs e)
 | _=>ns
def lO(ns:List Int)(s:bJ)(r:Rw):bJ:=lead {s with pos:=s.pos+1,bs:=uG ns s.bs r}
def cG(S:dD)(k:Nat):dD:=match S.hs[k]? with
 | none=>S
 | some s=>match s.rws[s.pos]? with
   | none=>S
   | some r=>{S with ns:=dW S.ns s.bs r,hs:=S.hs.set k (lO S.ns s r),ts:=S.ts++[(k:Int)]}
def Du(m:Nat)(ns:List Int)(a:List (List Rw)):dD:=⟨m,ns,a.map λr=>lead (new r),[]⟩
end Prf
variable{rws:List (List Prf.Rw)}{S S':Prf.dD}{hs:List Prf.bJ}
namespace L2
open PySem Prf
def aV.kp{a:List Rw}(d:aV H vs (a.map ou))(t:∀x xs,H x=some (.tup xs)->H' x=some (.tup xs)):aV H' vs (a.map ou):=d.keep t _ (cI ou G5 a)
end L2
namespace L2
open PySem PySem.Spec PyProof.Rows
def Ys{Q:VK}(G:bN X.prog X.w X.K X.mg X.base ig k f fd ps sp)(d:eU (k+1) X.A)(e:Binds X.K fd ps [])(I:Inv X pins σ H s)(r:Vals vs us)(q:sp vs H Q E0):wpAny (model X.prog X.w) X.A.in1 (call (.ref f) us) (EP X pins σ Q) X.xe s:=by
 have b:us.length=ps.length:=by rw[←r.length];exact G.len _ _ _ _ q
 have c:=e s us I.oO (by rw[List.append_nil];exact b);rw[List.append_nil] at c;refine wpAny_call (codeAny_mono (G.run X.A.in1 X.stack s H ⟨us,[]⟩ us vs Q E0 d.in1 I.env0.in1 c r q) λres g a=>?_)
 match res,a with
 | .error ev,a=>exact False.elim a
 | .ok (.ret u),a=>exact I.after a
def aen(C:Addr)(sp:Sp):List V->Hp->VK->Prop:=λxs H Q=>∃(a dx:Addr) (b:List (Str×V)),xs=[.ref a]/\H a=some (.ins C dx b)/\sp [.ref a] H (λv H'=>∃n:Int,v=.int n/\0<=n/\n<2 ^ 62/\Q (.int n) H') E0
def Fd(M:MethAt X.prog X.w X.K X.mg X.base k C "__len__" ["self"] sp)(m:eU (k+1) X.A):jm X (.builtin "len") (aen C sp):=by
 intro b s z H A us Q I e h;obtain⟨f,N,G,c,o⟩:=M;obtain⟨a,P,L,rfl,p,q⟩:=h;obtain⟨u,rfl,g⟩:=e.one;obtain rfl:u=Value.ref a:=g;obtain⟨F,y⟩:=I.fr;obtain⟨K,O,_⟩:=pQ I.hok p;obtain⟨D,J,_⟩:=O.look;refine W.len_K y I.mod.V7 J c.at_ c.fn (dM (Ys (us:=[.ref a]) (vs:=[.ref a]) G m o I (.cons rfl .nil) q) λv B l=>?_)
 obtain⟨x,w,r,d,n,rfl,j,E,i⟩:=l;obtain⟨t,rfl⟩:=d;exact⟨⟨j,LZ⟩,.int n,w,r.tok _,⟨_,Z⟩,i⟩
def ah0(C:Addr)(sp:Sp):R2:=λx y H Q=>∃(a b dx d:Addr) (c gs:List (Str×V)),x=.ref a/\y=.ref b/\H a=some (.ins C dx c)/\H b=some (.ins C d gs)/\sp [.ref a,.ref b] H (λv H'=>∃t:Bool,v=.bl t/\Q (.bl t) H') E0
def abW(M:MethAt X.prog X.w X.K X.mg X.base k C "__eq__" ["self","other"] sp)(e:eU (k+1) X.A):sZ X (compareOp .Eq) (ah0 C sp):=by intro d s D H x y u v Q I c i h;obtain⟨f,S,G,g,n⟩:=M;obtain⟨a,b,U,T,R,P,rfl,rfl,p,o,q⟩:=h;obtain rfl:u=Value.ref a:=c;obtain rfl:v=Value.ref b:=i;obtain⟨N,O,_⟩:=pQ I.hok p;obtain⟨F,J,_⟩:=O.look;obtain⟨L,r,_⟩:=pQ I.hok o;obtain⟨l,w,_⟩:=r.look;obtain⟨K,B⟩:=I.fr;refine W.cmp_ofEq (W.cmp_K e.aa9 B I.mod.V7 J w.type (by simp[W.notFirst]) g.at_ g.fn (dM (Gr (us:=[.ref a,.ref b]) (vs:=[.ref a,.ref b]) (rm:=[]) (ds:=[]) G (e.mono (Nat.le_succ _)) n .nil Jf I (.cons rfl (.cons rfl .nil)) q) λv E m=>?_));obtain⟨x,A,z,c,t,rfl,j⟩:=m;obtain rfl:v=Value.bool t:=c;exact⟨.bl t,A,z,Z,j⟩
structure IsO(K:zzy)(mg:zzv)(C:Addr)(nm:Str):Prop where
 bd:mg nm=some (.ref C)
 ha:W.findIn K (.ref C) "__class__" = some (some (.builtin "object.__class__"))
 hn:W.specialIn K (.builtin "object.__class__") "__get__" = some (some (.builtin "getset_descriptor.__get__"))
 ht:W.takesIn K (.builtin "object.__class__")=some true
 hm:W.mroIn K C (.type "object")=some true
def IsO.ty{mg:zzv}{nm:Str}(o:IsO K mg C nm){d:Addr}{b:List (Str×V)}(e:H a=some (.ins C d b))(c:Cls K C):uI K H (.ref a) (.ref C):= .ins e c o.ha o.hn o.ht o.hm
section
variable{prog:Program}
def nxT{t:Addr}{a:Array Value}{x:Value}(hi:s.heap.IsTupleIter it t i)(e:s.heap.IsTuple t a)(d:a[i]?=some x)(k:∀h',h'.IsTupleIter it t (i+1)->Heap.SameBut it s.heap h'->Q x {s with heap:=h'}):wpAny (model prog w) A (Builtin.SmallTypes.nextOf (.ref it)) Q E s:=by obtain⟨l,c,h,b⟩:=id hi;obtain⟨j,g,_,nn,f⟩:=e;unfold Builtin.SmallTypes.nextOf;refine aaB (wpAny_callSpecial?_slot (name:=Str.ofString "__next__") hi.typeIs F.slot_tuple_iterator_next (wpAny_call_entry F.slot_tuple_iterator_next hi.typeIs F.entry_tuple_iterator_next ?_ (F.args_tuple_iterator_next_1 _)));show wpAny _ _ (field (.ref it) 0 >>= _) _ _ s;refine aaB (wpAny_field c b (x:= .ref t) rfl ?_);show wpAny _ _ (if (Value.ref t==Value.none)=true then _ else _) _ _ s;rw[adp (show ¬((Value.ref t==Value.none)=true) from aaT)];show wpAny _ _ (field (.ref it) 1 >>= _) _ _ s;refine aaB (wpAny_field c b (x:= .int i 0) rfl ?_);show wpAny _ _ (seqItems? (.ref t) >>= _) _ _ s;refine aaB (wpAny_seqItems g f ?_);simp only[abf,d];refine aaB (wpAny_setField c b MZ (aaD ⟨x,Z,aaD (k _ ?_ (Heap.SameBut.update ..))⟩));refine⟨_,Heap.get?_update_self _ c (Obj.isFreed_of_fields (Obj.data_mapFields b _)),(Obj.cls_mapFields ..).trans h,?_⟩;rw[Obj.data_mapFields b];simp[rawInt]
theorem aiT{t:Addr}{b:Array Value}(f:A.handled=none)(hi:s.heap.IsTupleIter it t i)(h:s.heap.IsTuple t b)(g:b[i]?=none)(k:∀h' e,Heap.ExtBut it s.heap h'->(∃o,h'.get? e=some o/\o.cls=.type "StopIteration")->E (.ref e) {s with heap:=h'}):wpAny (model prog w) A (Builtin.SmallTypes.nextOf (.ref it)) Q E s:=by
 obtain⟨p,d,q,c⟩:=id hi;obtain⟨n,l,_,nn,j⟩:=h;unfold Builtin.SmallTypes.nextOf;refine aaB (wpAny_callSpecial?_slot (name:=Str.ofString "__next__") hi.typeIs F.slot_tuple_iterator_next (wpAny_call_entry F.slot_tuple_iterator_next hi.typeIs F.entry_tuple_iterator_next ?_ (F.args_tuple_iterator_next_1 _)));show wpAny _ _ (field (.ref it) 0 >>= _) _ _ s;refine aaB (wpAny_field d c (x:= .ref t) rfl ?_);show wpAny _ _ (if (Value.ref t==Value.none)=true then _ else _) _ _ s;rw[adp (show ¬((Value.ref t==Value.none)=true) from aaT)];show wpAny _ _ (field (.ref it) 1 >>= _) _ _ s;refine aaB (wpAny_field d c (x:= .int i 0) rfl ?_);show wpAny _ _ (seqItems? (.ref t) >>= _) _ _ s;refine aaB (wpAny_seqItems l j ?_);simp only[abf,g];refine aaB (wpAny_rule (aaB (wpAny_setField d c MZ ?_)));show wpAny _ _ (newExc (.type "StopIteration") [] >>= _) _ _ _;refine aaB ?_;simp only[newExc,newTuple];refine aaB (wpAny_newObj_type ?_ (by size_fits));refine aaB (m:=firstArgMember _ _) (wpAny_of_eq (a:=Value.none) (by first |rfl|(simp only[firstArgMember];rfl)) ?_);refine wpAny_newObj_type ?_ (by size_fits);simp only[raiseNew];refine aaB (wpAny_handled ?_)
 first |rw[show A.in1.handled=none from f]|rw[f]
 refine aaB (aaD (wpAny_throw (k _ _ (((Heap.SameBut.update ..).extBut.push _).push _) ⟨_,aar _ rfl,Z⟩)))
theorem aaZ{z TI TO g f:Addr}{k1 k2:Nat}{xs ys:Array Value}{x y a b:Value}{Q:Option Value->Shared->Prop}(D:ZipApart z TI TO g f l1 l2)(m:IsZip s.heap z TI TO .none)(hI:IsPair s.heap TI (.ref g) (.ref f))(hO:IsPair s.heap TO a b)(h1:s.heap.IsTupleIter g l1 k1)(h2:s.heap.IsTupleIter f l2 k2)(X:s.heap.IsTuple l1 xs)(W:s.heap.IsTuple l2 ys)(hx:xs[k1]?=some x)(hy:ys[k2]?=some y)(k:∀h',IsZip h' z TI TO (rawInt s.heap.objs.size)->IsPair h' TO x y->h'.IsTupleIter g l1 (k1+1)->h'.IsTupleIter f l2 (k2+1)->IsPair h' s.heap.objs.size x y->h'.objs.size=s.heap.objs.size+1->(∀c o,c≠z->c≠TO->c≠g->c≠f->s.heap.get? c=some o->h'.get? c=some o)->Q (some (.ref s.heap.objs.size)) {s with heap:=h'}):
 wpAny (model prog w) A (pyNext (.ref z)) Q E s:=by
 have tz:s.TypeIs (.ref z) "zip" :=⟨_,m,Z⟩;unfold pyNext;refine aaB (wpAny_attempt (wpAny_callSpecial?_slot (name:=Str.ofString "__next__") tz F.slot_zip_next (wpAny_call_entry F.slot_zip_next tz F.entry_zip_next ?_ (F.args_zip_next_1 _))));show wpAny _ _ (field (.ref z) 2 >>= _) _ _ _;refine aaB (wpAny_field m rfl (x:= .bool false) rfl ?_);show wpAny _ _ (field (.ref z) 3 >>= _) _ _ _;refine aaB (wpAny_field m rfl (x:= .ref TI) rfl ?_);refine aaB (wpAny_seqItems hI rfl ?_);show wpAny _ _ (Builtin.SmallTypes.ownedTupleIsFree (.ref z) >>= _) _ _ _;refine aaB ?_;unfold Builtin.SmallTypes.ownedTupleIsFree;refine aaB (wpAny_field m rfl (x:= .none) rfl (aaD ?_));simp only[if_true];refine aaB (wpAny_rule (aaB (wpAny_field m rfl (x:= .ref TO) rfl ?_)));refine aaB (wpAny_setField_rec m MZ λg1 G h=>?_)
 replace G:IsZip g1 z TI TO .ellipsis:=G
 refine aaB ?_;simp only[List.zipIdx_cons,List.zipIdx_nil,List.forIn_cons,List.forIn_nil];refine aaB (aaB (wpAny_onRaise ?_));show wpAny _ _ (Builtin.SmallTypes.nextOf (.ref g) >>= _) _ _ _
 refine aaB (nxT (h1.extBut h.extBut D.i1z) (X.extBut h.extBut D.l1z) hx λg2 j1 l=>aaD ?_);have S:IsPair g2 TO a b:=l.extBut _ _ D.TOi1 (h.extBut _ _ D.TOz hO);refine aaB (wpAny_seqItems S rfl ?_);refine aaB (wpAny_updateSeq_pair S λg3 L j=>?_)
 replace L:IsPair g3 TO x b:=L
 refine aaB (wpAny_letGo (aaD (aaB (aaB (wpAny_onRaise ?_)))));show wpAny _ _ (Builtin.SmallTypes.nextOf (.ref f) >>= _) _ _ _
 refine aaB (nxT (((h2.extBut h.extBut D.i2z).extBut l.extBut D.i12.symm).extBut j.extBut D.TOi2.symm) (((W.extBut h.extBut D.l2z).extBut l.extBut D.l2i1).extBut j.extBut D.l2TO) hy λg4 j2 q=>aaD ?_);have R:IsPair g4 TO x b:=q.extBut _ _ D.TOi2 L;refine aaB (wpAny_seqItems R rfl ?_);refine aaB (wpAny_updateSeq_pair R λd B p=>?_)
 replace B:IsPair d TO x y:=B
 refine aaB (wpAny_letGo (aaD (aaD (aaB (wpAny_seqItems B rfl (aaB (wpAny_newTuple ?_)))))));have O:d.objs.size=s.heap.objs.size:=by rw[p.1,q.1,j.1,l.1,h.1]
 have M:IsZip d z TI TO .ellipsis:=p.extBut _ _ D.TOz.symm (q.extBut _ _ D.i2z.symm (j.extBut _ _ D.TOz.symm (l.extBut _ _ D.i1z.symm G)));have Y:∀c o,c≠z->c≠TO->c≠g->c≠f->s.heap.get? c=some o->d.get? c=some o:=λc o i v K J e=>p.extBut _ _ v (q.extBut _ _ J (j.extBut _ _ v (l.extBut _ _ K (h.extBut _ _ i e))));have V:d.IsTupleIter g l1 (k1+1):=((j1.extBut j.extBut D.TOi1.symm).extBut q.extBut D.i12).extBut p.extBut D.TOi1.symm;have U:d.IsTupleIter f l2 (k2+1):=j2.extBut p.extBut D.TOi2.symm;have n:z<d.objs.size:=aas M;show wpAny _ _ (Builtin.SmallTypes.ownedTupleHandOut (.ref z) (.ref d.objs.size) >>= _) _ _ _;refine aaB ?_;unfold Builtin.SmallTypes.ownedTupleHandOut;have T:IsZip (d.push {cls:= .type "tuple",data:= .seq #[x,y]}) z TI TO .ellipsis:=aaq _ M;refine aaB (wpAny_setField_rec T MZ λg7 C I=>?_)
 replace C:IsZip g7 z TI TO (rawInt d.objs.size):=C
 refine wpAny_setField_rec C MZ λt u H=>?_
 replace u:IsZip t z TI TO (rawInt d.objs.size):=u
 have up:∀c o,c≠z->d.get? c=some o->t.get? c=some o:=λc o i e=>H.extBut _ _ i (I.extBut _ _ i (aaq _ e));have N:IsPair t d.objs.size x y:=H.extBut _ _ (Nat.ne_of_gt n) (I.extBut _ _ (Nat.ne_of_gt n) (aar _ rfl));have P:t.objs.size=d.objs.size+1:=by rw[H.1,I.1,Heap.size_push]
 rw[O] at u N P;refine aaD ⟨_,Z,aaD ?_⟩;show Q (some (.ref d.objs.size)) _;rw[O];refine k t u (up _ _ D.TOz B) ?_ ?_ N P λc o i v K J e=>up c o i (Y c o i v K J e)
 .obtain⟨o,e,r⟩:=V;exact⟨o,up _ _ D.i1z e,r⟩
 .obtain⟨o,e,r⟩:=U;exact⟨o,up _ _ D.i2z e,r⟩
theorem adR{z TI TO f h:Addr}{k1 k2:Nat}{xs ys:Array Value}{a b:Value}{Q:Option Value->Shared->Prop}(J:A.handled=none)(D:ZipApart z TI TO f h l1 l2)(g:IsZip s.heap z TI TO .none)(L:IsPair s.heap TI (.ref f) (.ref h))(O:IsPair s.heap TO a b)(M:s.heap.IsTupleIter f l1 k1)(P:s.heap.IsTupleIter h l2 k2)(C:s.heap.IsTuple l1 xs)(N:s.heap.IsTuple l2 ys)(G:xs[k1]?=none)(k:∀h',(∀c o,c≠z->c≠TO->c≠f->c≠h->s.heap.get? c=some o->h'.get? c=some o)->Q none {s with heap:=h'}):wpAny (model prog w) A (pyNext (.ref z)) Q E s:=by
 have tz:s.TypeIs (.ref z) "zip" :=⟨_,g,Z⟩
 have stop:∀(h':Heap)(e:Addr),(∀c o,c≠z->c≠TO->c≠f->c≠h->s.heap.get? c=some o->h'.get? c=some o)->(∃o,h'.get? e=some o/\o.cls=.type "StopIteration")->wpAny (model prog w) A (do if ←isInstance (.ref e) (.type "StopIteration") then pure none else throw (.ref e)) Q E {s with heap:=h'}:=λh' e I n=>by obtain⟨o,H,K⟩:=n;exact aaB (wpAny_isInstance (T:= "StopIteration") (b:=true) ⟨o,H,K⟩ isSubtype_stop (aaD (k _ I)))
 unfold pyNext;refine aaB (wpAny_attempt (wpAny_callSpecial?_slot (name:=Str.ofString "__next__") tz F.slot_zip_next (wpAny_call_entry F.slot_zip_next tz F.entry_zip_next ?_ (F.args_zip_next_1 _))));show wpAny _ _ (field (.ref z) 2 >>= _) _ _ _;refine aaB (wpAny_field g rfl (x:= .bool false) rfl ?_);show wpAny _ _ (field (.ref z) 3 >>= _) _ _ _;refine aaB (wpAny_field g rfl (x:= .ref TI) rfl ?_);refine aaB (wpAny_seqItems L rfl ?_);show wpAny _ _ (Builtin.SmallTypes.ownedTupleIsFree (.ref z) >>= _) _ _ _;refine aaB ?_;unfold Builtin.SmallTypes.ownedTupleIsFree;refine aaB (wpAny_field g rfl (x:= .none) rfl (aaD ?_));simp only[if_true];refine aaB (wpAny_rule (aaB (wpAny_field g rfl (x:= .ref TO) rfl ?_)));refine aaB (wpAny_setField_rec g MZ λg1 j l=>?_)
 replace j:IsZip g1 z TI TO .ellipsis:=j
 refine aaB ?_;simp only[List.zipIdx_cons,List.zipIdx_nil,List.forIn_cons,List.forIn_nil];refine aaB (aaB (wpAny_onRaise ?_));show wpAny _ _ (Builtin.SmallTypes.nextOf (.ref f) >>= _) _ _ _
 refine aaB (aiT J (M.extBut l.extBut D.i1z) (C.extBut l.extBut D.l1z) G λg2 e t n=>?_);obtain⟨y,d,i⟩:=n;have p:IsZip g2 z TI TO .ellipsis:=t _ _ D.i1z.symm j;have m:e≠z:=λq=>by subst q;rw[p] at d;cases d;simp at i
 refine wpAny_setField_rec p MZ λg3 _ r=>?_;obtain v:=stop g3 e (λc o u _ B _ q=>r.extBut _ _ u (t _ _ B (l.extBut _ _ u q))) ⟨y,r.extBut _ _ m d,i⟩;exact v
end
abbrev S6(l:Addr):Obj:={cls:= .type "tuple_iterator",data:= .fields #[.ref l,.int 0 0]}
abbrev zt3(h:Heap)(a b:Addr):Heap:=((h.push (S6 a)).push (S6 b)).push {cls:= .type "tuple",data:= .seq #[.ref h.objs.size,.ref (h.push (S6 a)).objs.size]}
abbrev zt4(h:Heap)(b a:Addr):Heap:=(zt3 h b a).push {cls:= .type "tuple",data:= .seq #[.none,.none]}
abbrev zt5(h:Heap)(b a:Addr):Heap:=(zt4 h b a).push {cls:= .type "zip",data:= .fields #[.none,.bool false,.bool false,.ref ((h.push (S6 b)).push (S6 a)).objs.size,.ref (zt3 h b a).objs.size]}
def adQ(a b:Addr)(xs ys:Array Value):Meets (Builtin.«zip.__new__» ⟨[.type "zip",.ref a,.ref b],[]⟩) (λ_ R s=>s.heap.IsTuple a xs/\s.heap.IsTuple b ys/\R (.ok (.ret (.ref (zt4 s.heap a b).objs.size))) {s with heap:=zt5 s.heap a b}):=
 .of_wp λprog w A R s h=>by
  obtain⟨e,g,d,c,os⟩:=s;obtain⟨i,f,h⟩:=h;have sub:=sub_zip;have M1:Heap.IsTuple (Shared.heap ⟨e,g,d,c,os⟩) a xs:=i;have M2:Heap.IsTuple (Shared.heap ⟨e.push {cls:= .type "tuple_iterator",data:= .fields #[.ref a,.int 0 0]},g,d,c,os⟩) b ys:=Heap.IsTuple.push f _
  wp_walk using wpAny_pyIter_tuple M1,wpAny_pyIter_tuple M2
  exact⟨_,Z,h⟩
section
variable{prog:Program}
theorem aa0{xs ys:Array Value}(l:s.heap.IsTuple l1 xs)(j:s.heap.IsTuple l2 ys)(k:∀h',IsZip h' (s.heap.objs.size+4) (s.heap.objs.size+2) (s.heap.objs.size+3) .none->IsPair h' (s.heap.objs.size+2) (.ref s.heap.objs.size) (.ref (s.heap.objs.size+1))->IsPair h' (s.heap.objs.size+3) .none .none->h'.IsTupleIter s.heap.objs.size l1 0->h'.IsTupleIter (s.heap.objs.size+1) l2 0 ->(∀c o,s.heap.get? c=some o->h'.get? c=some o)->Q (.ref (s.heap.objs.size+4)) {s with heap:=h'}):wpAny (model prog w) A (call (.type "zip") [.ref l1,.ref l2]) Q E s:=by
 refine callType_new F.called_zip DZ (F.typeCall_zip_2 _ _) (F.newCall_zip_2 _ _) (λobj=>F.args_object_init_3 obj _ _) F.entry_zip_new (adQ l1 l2 xs ys) ⟨l,j,?_⟩;have d:(s.heap.push (S6 l1)).objs.size=s.heap.objs.size+1:=Heap.size_push ..;have b:((s.heap.push (S6 l1)).push (S6 l2)).objs.size=s.heap.objs.size+2:=by rw[Heap.size_push,d]
 have a:(zt3 s.heap l1 l2).objs.size=s.heap.objs.size+3:=by rw[Heap.size_push,b]
 have f:(zt4 s.heap l1 l2).objs.size=s.heap.objs.size+4:=by rw[Heap.size_push,a]
 have e:(zt5 s.heap l1 l2).get? (zt4 s.heap l1 l2).objs.size=some _:=aar _ rfl;have g:(zt5 s.heap l1 l2).get? (zt3 s.heap l1 l2).objs.size=some _:=aaq _ (aar _ rfl);have h:(zt5 s.heap l1 l2).get? ((s.heap.push (S6 l1)).push (S6 l2)).objs.size=some _:=aaq _ (aaq _ (aar _ rfl));have i:(zt5 s.heap l1 l2).get? (s.heap.push (S6 l1)).objs.size=some _:=aaq _ (aaq _ (aaq _ (aar _ rfl)));have m:(zt5 s.heap l1 l2).get? s.heap.objs.size=some _:=aaq _ (aaq _ (aaq _ (aaq _ (aar _ rfl))));show _/\_;rw[b,a,f] at e;rw[d,b] at h;rw[a] at g;rw[d] at i;rw[f];refine⟨⟨_,e,Z⟩,k _ e h g ⟨_,m,Z,Z⟩ ⟨_,i,Z,Z⟩ λc o q=>?_⟩
 iterate 5 refine aaq _ ?_
 exact q
end
def ade(K:zzy)(b a:Addr):It:=
 ⟨λi H=>∃xs ys x y,cC K H b xs/\cC K H a ys/\xs[i]?=some x/\ys[i]?=some y,
  λi H x H'=>∃(p:Addr) (y z:V),x=.ref p/\H p=none/\(∀xs,cC K H b xs->xs[i]?=some y)/\(∀ys,cC K H a ys->ys[i]?=some z)/\H'=upd H p (.tup [y,z]),
  λi H=>∃xs ys,cC K H b xs/\cC K H a ys/\xs.length<=i⟩
theorem Qq(z TI TO n m G F:Addr)(ap:ZipApart z TI TO n m G F):Turn P w K (.Tuple elts x1 pos) (ade K G F) [z,TI,TO,n,m] z
 (λi h=>IsZip h z TI TO .none/\IsPair h TI (.ref n) (.ref m)/\(∃a b,IsPair h TO a b)/\h.IsTupleIter n G i/\h.IsTupleIter m F i) where
 mem:=by simp
 obj:=λi h p b g=>by
  obtain⟨A,d,⟨a,c,f⟩,⟨T,h1,W,R⟩,⟨S,N,V,Q⟩⟩:=p;have B:b=z\/b=TI\/b=TO\/b=n\/b=m:=by simpa using g
  rcases B with rfl|rfl|rfl|rfl|rfl
  .exact⟨_,A,λv z=>by cases z⟩
  .exact⟨_,d,λv z=>by cases z⟩
  .exact⟨_,f,λv z=>by cases z⟩
  .exact⟨_,h1,λv z=>by rw[R] at z;cases z⟩
  .exact⟨_,N,λv z=>by rw[Q] at z;cases z⟩
 keep:=λi h h' p k=>by obtain⟨A,d,⟨a,c,f⟩,⟨T,h1,W,R⟩,⟨S,N,V,Q⟩⟩:=p;exact⟨k z MZ _ A,k TI MZ _ d,⟨a,c,k TO MZ _ f⟩,⟨T,k n MZ _ h1,W,R⟩,⟨S,k m MZ _ N,V,Q⟩⟩
 item:=by
  intro X hP hw hK hc i j s σ H E I hf p hg;subst hP hw hK;obtain⟨xs,ys,x,y,r,q,hx,U⟩:=hg;obtain⟨Jz,Yr,p1,a3⟩:=I.tuple r;obtain⟨l,D,p2,a2⟩:=I.tuple q;obtain⟨u1,a7,a1⟩:=Yr.get hx;obtain⟨u2,a6,a0⟩:=D.get U;obtain⟨A,d,⟨a,c,f⟩,hi1,t⟩:=p;have Y:=aas A;have c0:=aas d;have c3:=aas f;have b8:n<s.heap.objs.size:=by obtain⟨o,ho,_⟩:=id hi1;exact aas ho
  have b9:m<s.heap.objs.size:=by obtain⟨o,ho,_⟩:=id t;exact aas ho
  refine aaZ ap A d f hi1 t (show s.heap.IsTuple G Jz.toArray from p1) (show s.heap.IsTuple F l.toArray from p2) (x:=u1) (y:=u2) (by simpa using a7) (by simpa using a6) λh' a4 b5 b6 L J c5 hk=>?_;refine⟨_,Z,?_⟩;refine wpAny_letOwnedTupleGo_zip a4 λN b7 C=>?_;have b0:H s.heap.objs.size=none:=I.hok.fresh (aav _)
  have I0:Inv X j σ (upd H s.heap.objs.size (.tup [x,y])) {s with heap:=s.heap.push {cls:= .type "tuple",data:= .seq #[u1,u2]}}:=I.laid (t':=s.toks) (λb u e=>aaq _ e) (aav _) ⟨sZ2,[u1,u2],.cons a1 (.cons a0 .nil),⟨_,aar _ rfl,Z,_,Z⟩⟩
  have M:∀b∈[z,TI,TO,n,m],nR X j (upd H s.heap.objs.size (.tup [x,y])) b:=λb g=>by
   refine(hf b g).upd ?_;have B:b=z\/b=TI\/b=TO\/b=n\/b=m:=by simpa using g
   rcases B with rfl|rfl|rfl|rfl|rfl
   .exact aa7 Y
   .exact aa7 c0
   .exact aa7 c3
   .exact aa7 b8
   .exact aa7 b9
  have I1:=I0.rO (h':=N) (t':=s.toks) M (λb o g O=>by
   have b1:b≠z:=λe=>g (by simp[e]);have b2:b≠TO:=λe=>g (by simp[e]);have b3:b≠n:=λe=>g (by simp[e]);have b4:b≠m:=λe=>g (by simp[e]);rw[C.2 b b1];rcases BZ rfl O with ⟨rfl,rfl⟩|O
   .exact J
   .exact hk b o b1 b2 b3 b4 O)
  refine⟨.ref s.heap.objs.size,_,I1,Z,⟨s.heap.objs.size,x,y,Z,b0,λys U=>by rw[I.wH U r];exact hx,λc4 a5=>by rw[I.wH a5 q];exact U,Z⟩,?_,λb g=>(M b g).1⟩;obtain⟨T,a9,W,R⟩:=b6;obtain⟨S,a8,V,Q⟩:=L;exact⟨b7,(C.2 TI ap.TIz).trans (hk TI _ ap.TIz ap.TITO ap.TIi1 ap.TIi2 d),⟨_,_,(C.2 TO ap.TOz).trans b5⟩,⟨T,(C.2 n ap.i1z).trans a9,W,R⟩,⟨S,(C.2 m ap.i2z).trans a8,V,Q⟩⟩
 done:=by intro X hP hw hK hc i j s σ H E I hf p hg;subst hP hw hK;obtain⟨xs,ys,r,q,hx⟩:=hg;obtain⟨Jz,Yr,p1,a3⟩:=I.tuple r;obtain⟨l,D,p2,a2⟩:=I.tuple q;obtain⟨A,d,⟨a,c,f⟩,hi1,t⟩:=p;have c6:=Yr.length;refine adR (I.ok.hd hc) ap A d f hi1 t (show s.heap.IsTuple G Jz.toArray from p1) (show s.heap.IsTuple F l.toArray from p2) (by simp;lia) λh' O=>⟨Z,I.rO (t':=s.toks) hf (λb o g e=>O b o (λz=>g (by simp[z])) (λz=>g (by simp[z])) (λz=>g (by simp[z])) (λz=>g (by simp[z])) e)⟩
 self:=λ_ _ _ _ _ p h=>wpAny_pyIter_zip p.1 h
def aeO(K:zzy)(a:TA):TI:=λσ H R=>a σ H λvs H1=>∃l1 l2 xs ys,vs=[.ref l1,.ref l2]/\((bF K H1 l1 xs/\bF K H1 l2 ys/\R (Itz K l1 l2) H1)\/(cC K H1 l1 xs/\cC K H1 l2 ys/\R (ade K l1 l2) H1))
theorem YH{a b:Expr}{Q:TA}{p:Pos}(hK:X.K=K)(hg:Gl X "zip")(hm:X.mg "zip" = none)(ha:PA X [a,b] Q)(hs:starEach [a,b] X.env=[(false,eval a X.env),(false,eval b X.env)]:=by rfl)(B:starEach [b] X.env=[(false,eval b X.env)]:=by rfl):PI X (.Tuple elts x1 tpos) (.Call (.Name "zip" p) [a,b] [] pos) (aeO K Q):=by
 subst hK;intro d s E H R I h;refine Call_ (pO I hg hm boot_zip (PyProof.Rows.callWith_type1 (dM (ha pos d s E H _ I h) λV c ⟨vs,H1,f,W,q1⟩=>?_) (by rw[hs,B]) (by rw[B];rfl)));obtain⟨A,z,xs,ys,e,q1⟩:=q1;subst e
 obtain⟨F,k,rfl,r,J⟩:∃F k,V=F::k/\RelV (.ref A) F/\Vals [.ref z] k:=by
  cases W with
  | cons r J=>exact⟨_,_,Z,r,J⟩
 obtain⟨u2,rfl,Y⟩:=J.one;cases r;cases Y
 have D:∀b∈[c.heap.objs.size+4,c.heap.objs.size+2,c.heap.objs.size+3,c.heap.objs.size,c.heap.objs.size+1],c.heap.objs.size<=b:=λb w=>by
  have:b=c.heap.objs.size+4\/b=c.heap.objs.size+2\/b=c.heap.objs.size+3\/b=c.heap.objs.size\/b=c.heap.objs.size+1:=by simpa using w
  rcases this with rfl|rfl|rfl|rfl|rfl
  .exact Nat.le_add_right _ _
  .exact Nat.le_add_right _ _
  .exact Nat.le_add_right _ _
  .exact aav _
  .exact Nat.le_add_right _ _
 rcases q1 with ⟨t,n,q⟩|⟨t,n,q⟩
 .obtain⟨U,Yr,i,M⟩:=f.list t
  obtain⟨j,G,g,L⟩:=f.list n;have m:A<c.heap.objs.size:=by obtain⟨o,u,_⟩:=i.isList;exact aas u
  have l:z<c.heap.objs.size:=by obtain⟨o,u,_⟩:=g.isList;exact aas u
  refine call_zip_2 i.isList g.isList λO C y x hi1 v a0 N=>?_;refine wpAny_pyIter_zip C ?_;have P:Inv X d E H1 {c with heap:=O}:=f.kept (t':=c.toks) N;exact⟨c.heap.objs.size+4,[c.heap.objs.size+4,c.heap.objs.size+2,c.heap.objs.size+3,c.heap.objs.size,c.heap.objs.size+1],_,_,H1,Z,P,Tv _ _ _ _ _ A z (zipApart_new m l),⟨C,y,⟨_,_,x⟩,hi1,v⟩,λb w=>f.vN (D b w) (f.hok.fresh (D b w)),q⟩
 .obtain⟨U,Yr,i,M⟩:=f.tuple t
  obtain⟨j,G,g,L⟩:=f.tuple n;have T:c.heap.IsTuple A U.toArray:=i;have S:c.heap.IsTuple z j.toArray:=g;have m:A<c.heap.objs.size:=by obtain⟨o,u,_⟩:=id T;exact aas u
  have l:z<c.heap.objs.size:=by obtain⟨o,u,_⟩:=id S;exact aas u
  refine aa0 T S λO C y x hi1 v N=>?_;refine wpAny_pyIter_zip C ?_;have P:Inv X d E H1 {c with heap:=O}:=f.kept (t':=c.toks) N;exact⟨c.heap.objs.size+4,[c.heap.objs.size+4,c.heap.objs.size+2,c.heap.objs.size+3,c.heap.objs.size,c.heap.objs.size+1],_,_,H1,Z,P,Qq _ _ _ _ _ A z (zipApart_new m l),⟨C,y,⟨_,_,x⟩,hi1,v⟩,λb w=>f.vN (D b w) (f.hok.fresh (D b w)),q⟩
section
variable{Q:VK}{rest:St}{H1:Hp}
theorem Mj(I:xs.length=n)(E:ys.length=n)(f:Nat->Option V)(A:H1 D=none)(h:H1 l1=some (.tup xs))(g:H1 l2=some (.tup ys))(O:n<=100000)(hs:∀i x y H (G:Hp->Prop) (F:VK),xs[i]?=some x->ys[i]?=some y->Same H1 H->(∀H',Same H H'->f i=none->G H')->(∀y H',Same H H'->f i=some y->F y H')->tc (some x::some y::rest) H λb r=>if b=true then te (some x::some y::rest) r F else G r)(J:∀H,Same H1 H->H D=some (.lst ((List.range n).filterMap f))->Q (.ref D) H):iu (ade K l1 l2) (Wm K 2 (Ey (bV 0) (Ey (bV 1) acM))) tc te Q D (none::none::rest) H1:=by
 refine⟨λi m s H=>m=n-i/\i<=n/\(∃u v,s=u::v::rest)/\Same H1 H/\H D=some (.lst ((List.range i).filterMap f)),⟨n,MZ,Nat.zero_le _,⟨none,none,Z⟩,aH A,ao⟩,?_⟩;rintro i m s H ⟨rfl,P,⟨u,v,rfl⟩,a,e⟩
 by_cases l:i<n
 .have q1:cC K H l1 xs:=cC.of (a _ _ h)
  have q2:cC K H l2 ys:=cC.of (a _ _ g);have k:xs[i]?=some (xs[i]'LZ):=aal _;have j:ys[i]?=some (ys[i]'LZ):=aal _;refine .inr ⟨⟨xs,ys,_,_,q1,q2,k,j⟩,λc H'=>(∃u v,c=u::v::rest)/\Same H1 H'/\H' D=some (.lst ((List.range (i+1)).filterMap f)),λc H' B=>⟨n-(i+1),LZ,Z,l,B⟩,?_⟩;rintro x H' ⟨p,y,z,rfl,C,N,M,rfl⟩;have d:=aH (o:=HO.tup [y,z]) C;refine⟨p,[y,z],Z,cC.of ao,Z,_,_,Z,_,_,Z,Z,?_⟩;refine hs i y z _ _ _ (N _ q1) (M _ q2) (a.trans d) (λr w q=>⟨⟨_,_,Z⟩,(a.trans d).trans w,by rw[w _ _ (d _ _ e),d8,q];simp⟩) (λy R t q=>?_);refine⟨_,t _ _ (d _ _ e),?_,⟨_,_,Z⟩,((a.trans d).trans t).newly A,?_⟩
  .have:=uE f i
   rw[sizeLine_eq];lia
  .rw[ao,d8,q];rfl
 .have L:i=n:=by lia
  subst L;exact .inl ⟨⟨xs,ys,cC.of (a _ _ h),cC.of (a _ _ g),LZ⟩,J H a e⟩
end
end L2
namespace Prf
open PySem L2
def inR(x:Int):Prop:=0<=x/\x<1000
def allR(l:List Int):Prop:=∀x∈l,inR x
def Kh{l:List Int}(h:allR l)(i:Nat):inR ((l[i]?).getD 0):=by
 cases e:l[i]? with
 | none=>exact⟨DZ,DZ⟩
 | some x=>exact h x (aaN e)
def Cz{l:List Int}(h:allR l)(i:Nat){x:Int}(b:inR x):allR (l.set i x):=λy a=>by
 rcases List.mem_or_eq_of_mem_set a with m|e
 .exact h y m
 .rw[e];exact b
def GP(x:Int):inR (x % 1000):=⟨Int.emod_nonneg _ DZ,Int.emod_lt_of_pos _ DZ⟩
def Tp{bs:List Int}(h:allR bs):∀e:Ku,inR (vx bs e)
 | .one (.num n)=>GP n
 | .one (.box b)=>Kh h b
 | .two true x y=>GP _
 | .two false x y=>GP _
theorem ZR{s:bJ}(h:allR s.bs)(r:Rw):allR (yu s r).bs:=by cases r<;>first |exact h|exact Cz h _ (Tp h _)
theorem V3:∀(n:Nat)(s:bJ),allR s.bs->allR (led n s).bs
 | 0,s,h=>by
   unfold led;split
   .exact h
   .split<;>exact h
 | n+1,s,h=>by
   unfold led;split
   .exact h
   .split
    .exact h
    .exact V3 n _ (ZR h _)
def Yi(x:Str):Prop:=x = "waits" \/ x = "ends" \/ x = "lost"
theorem BL:∀(n:Nat)(s:bJ),Yi (led n s).st
 | 0,s=>by
   unfold led;split
   .exact .inr (.inl rfl)
   .split
    .exact .inl rfl
    .exact .inr (.inr rfl)
 | n+1,s=>by
   unfold led;split
   .exact .inr (.inl rfl)
   .split
    .exact .inl rfl
    .exact BL n _
structure jW(S:dD):Prop where
 n:allR S.ns
 b:∀s∈S.hs,allR s.bs
 t:∀s∈S.hs,Yi s.st
theorem Z2{bs:List Int}(h:allR ns)(a:allR bs)(r:Rw):allR (dW ns bs r):=by cases r<;>first |exact h|exact Cz h _ (Tp a _)
theorem Z5{bs:List Int}(h:allR ns)(a:allR bs)(r:Rw):allR (uG ns bs r):=by cases r<;>first |exact a|exact Cz a _ (Kh h _)
def jW.turn(g:jW S)(k:Nat):jW (cG S k):=by
 unfold cG;split
 .exact g
 .rename_i s d
  split
  .exact g
  .rename_i r f
   have c:=g.b s (aaN d);refine⟨Z2 g.n c r,λb a=>?_,λb a=>?_⟩
   .rcases List.mem_or_eq_of_mem_set a with m|e
    .exact g.b b m
    .rw[e]
     exact V3 _ _ (Z5 g.n c r)
   .rcases List.mem_or_eq_of_mem_set a with m|e
    .exact g.t b m
    .rw[e]
     exact BL _ _
def Rt(h:allR ns):jW (Du m ns rws):=⟨h,λs a=>by
 obtain⟨r,_,rfl⟩:=abE.mp a;refine V3 _ _ λx b=>?_;rw[(List.mem_replicate.mp b).2];exact⟨DZ,DZ⟩,λs a=>by
 obtain⟨r,_,rfl⟩:=abE.mp a;exact BL _ _⟩
def Hy:∀b:Fin 8,PyData.strOk (vX b.val)=true:=by decide +kernel
def Mq{x:SX}(h:Tn x):(DP x).canLay0=true/\(DP x).depth<=1:=by
 cases x with
 | num n=>exact⟨by show (PyData.strOk (Str.ofString "number")&&(true&&true))=true;decide +kernel,by show (max 0 (max 0 0))+1<=1;decide⟩
 | box b=>
   refine⟨?_,by show (max 0 (max 0 0))+1<=1;decide⟩;show (PyData.strOk (Str.ofString "box")&&(PyData.strOk (vX b)&&true))=true;rw[show PyData.strOk (vX b)=true from Hy ⟨b,h⟩];decide +kernel
def xT{e:Ku}(h:xQ e):(oR e).canLay0=true/\(oR e).depth<=2:=by
 cases e with
 | one x=>obtain⟨a,b⟩:=Mq (x:=x) h;exact⟨a,by show (DP x).depth<=2;lia⟩
 | two p x y=>
   obtain⟨d,g⟩:=Mq h.1;obtain⟨c,f⟩:=Mq h.2;refine⟨?_,?_⟩
   .show (PyData.strOk (if p then Str.ofString "plus" else Str.ofString "minus")&&(PyData.canLay0 (DP x)&&(PyData.canLay0 (DP y)&&true)))=true
    rw[d,c];cases p<;>decide +kernel
   .show max 0 (max (DP x).depth (max (DP y).depth 0))+1<=2
    lia
theorem W6{r:Rw}(h:Jc m r):(ou r).canLay0=true/\(ou r).depth<=3:=by
 cases r with
 | load b c=>
   refine⟨?_,by show max 0 (max 0 (max 0 0))+1<=3;decide⟩;show (PyData.strOk (Str.ofString "load")&&(PyData.strOk (vX b)&&(true&&true)))=true;rw[show PyData.strOk (vX b)=true from Hy ⟨b,h.1⟩];decide +kernel
 | store c e=>
   obtain⟨a,d⟩:=xT h.2;refine⟨?_,?_⟩
   .show (PyData.strOk (Str.ofString "store")&&(true&&(PyData.canLay0 (oR e)&&true)))=true
    rw[a];decide +kernel
   .show max 0 (max 0 (max (oR e).depth 0))+1<=3
    lia
 | swap b c e=>
   obtain⟨a,d⟩:=xT h.2.2;refine⟨?_,?_⟩
   .show (PyData.strOk (Str.ofString "swap")&&(PyData.strOk (vX b)&&(true&&(PyData.canLay0 (oR e)&&true))))=true
    rw[a,show PyData.strOk (vX b)=true from Hy ⟨b,h.1⟩];decide +kernel
   .show max 0 (max 0 (max 0 (max (oR e).depth 0)))+1<=3
    lia
 | yL b e=>
   obtain⟨a,d⟩:=xT h.2;refine⟨?_,?_⟩
   .show (PyData.strOk (Str.ofString "let")&&(PyData.strOk (vX b)&&(PyData.canLay0 (oR e)&&true)))=true
    rw[a,show PyData.strOk (vX b)=true from Hy ⟨b,h.1⟩];decide +kernel
   .show max 0 (max 0 (max (oR e).depth 0))+1<=3
    lia
 | say e=>
   obtain⟨a,d⟩:=xT (e:=e) h;refine⟨?_,?_⟩
   .show (PyData.strOk (Str.ofString "say")&&(PyData.canLay0 (oR e)&&true))=true
    rw[a];decide +kernel
   .show max 0 (max (oR e).depth 0)+1<=3
    lia
 | go k=>exact⟨by show (PyData.strOk (Str.ofString "go")&&(true&&true))=true;decide +kernel,by show max 0 (max 0 0)+1<=3;decide⟩
 | Dd q e f k=>
   obtain⟨i,l⟩:=xT h.1;obtain⟨g,j⟩:=xT h.2;refine⟨?_,?_⟩
   .show (PyData.strOk (Str.ofString "unless")&&(PyData.strOk (if q then Str.ofString "=" else Str.ofString "<")&&(PyData.canLay0 (oR e)&&(PyData.canLay0 (oR f)&&(true&&true)))))=true
    rw[i,g];cases q<;>decide +kernel
   .show max 0 (max 0 (max (oR e).depth (max (oR f).depth (max 0 0))))+1<=3
    lia
def eZ(l:List Int):PyData:= .list (l.map PyData.int)
def jV(l:List Int):(eZ l).canLay0=true/\(eZ l).depth<=1:=⟨iR PyData.int l λ_ _=>rfl,by
 have:=fY PyData.int 0 l λ_ _=>by show 0<=0;decide
 show PyData.depthAll (l.map PyData.int)+1<=1;lia⟩
def xG(s:bJ):PyData:= .tuple [.str s.st,if s.st = "waits" then .int s.pos else .none,eZ s.bs,eZ s.sy]
theorem aao(h:Yi x):PyData.strOk x=true:=by rcases h with rfl|rfl|rfl<;>decide +kernel
def P_{s:bJ}(h:Yi s.st):(xG s).canLay0=true/\(xG s).depth<=2:=by
 obtain⟨c,f⟩:=jV s.bs;obtain⟨b,e⟩:=jV s.sy;have a:(if s.st = "waits" then PyData.int s.pos else .none).canLay0=true:=by split<;>rfl
 have d:(if s.st = "waits" then PyData.int s.pos else .none).depth=0:=by split<;>rfl
 refine⟨?_,?_⟩
 .show (PyData.strOk s.st&&(PyData.canLay0 (if s.st = "waits" then PyData.int s.pos else .none)&&(PyData.canLay0 (eZ s.bs)&&(PyData.canLay0 (eZ s.sy)&&true))))=true
  rw[c,b,a,aao h];rfl
 .show max 0 (max (PyData.depth (if s.st = "waits" then PyData.int s.pos else .none)) (max (eZ s.bs).depth (max (eZ s.sy).depth 0)))+1<=2
  lia
def vm(a:List Rw):PyData:= .list (a.map ou)
def Oo(S:dD):PyData:= .tuple [.int S.m,.list (S.hs.map λs=>vm s.rws)]
def Qn(S:dD)(cs:List Int):PyData:= .tuple [Oo S,eZ S.ns,.list (S.hs.map xG),eZ cs]
def J3{a:List Rw}(h:∀r∈a,Jc m r):(vm a).canLay0=true/\(vm a).depth<=4:=⟨iR ou a λr b=>(W6 (h r b)).1,by have:=fY ou 3 a λr b=>(W6 (h r b)).2;show PyData.depthAll (a.map ou)+1<=4;lia⟩
def Mr(g:jW S)(h:∀s∈S.hs,∀r∈s.rws,Jc S.m r):SeqAt.shaped (Qn S cs)=true:=by
 obtain⟨f,l⟩:=jV S.ns;obtain⟨e,k⟩:=jV cs;have d:PyData.canLay0 (.list (S.hs.map xG))=true:=iR xG S.hs λs hs=>(P_ (g.t s hs)).1;have j:=fY xG 2 S.hs λs hs=>(P_ (g.t s hs)).2;have c:PyData.canLay0 (.list (S.hs.map λs=>vm s.rws))=true:=iR (λs:bJ=>vm s.rws) S.hs λs hs=>(J3 (h s hs)).1;have i:=fY (λs:bJ=>vm s.rws) 4 S.hs λs hs=>(J3 (h s hs)).2
 have b:PyData.canLay0 (Qn S cs)=true:=by show ((true&&(PyData.canLay0 (.list (S.hs.map λs=>vm s.rws))&&true))&&(PyData.canLay0 (eZ S.ns)&&(PyData.canLay0 (.list (S.hs.map xG))&&(PyData.canLay0 (eZ cs)&&true))))=true;rw[f,e,d,c];rfl
 have a:PyData.depth (Qn S cs)<=64:=by show max (max 0 (max (PyData.depthAll (S.hs.map λs=>vm s.rws)+1) 0)+1) (max (eZ S.ns).depth (max (PyData.depthAll (S.hs.map xG)+1) (max (eZ cs).depth 0)))+1<=64;lia
 unfold SeqAt.shaped;rw[b,aaO a];rfl
mutual
theorem JM:∀d:PyData,d.canLay0=true->PyData.eqv d d=true
 | .none,_=>rfl
 | .bool b,_=>by simp[PyData.eqv]
 | .int i,_=>by simp[PyData.eqv]
 | .str x,_=>by simp[PyData.eqv]
 | .list ds,h=>by simp only[PyData.eqv];exact xR ds (by simpa [PyData.canLay0] using h)
 | .tuple ds,h=>by simp only[PyData.eqv];exact xR ds (by simpa [PyData.canLay0] using h)
 | .dict _,h=>by simp[PyData.canLay0] at h
theorem xR:∀ds:List PyData,PyData.canLayAll0 ds=true->PyData.eqvAll ds ds=true
 | [],_=>rfl
 | d::ds,h=>by simp only[PyData.canLayAll0,abt] at h;simp only[PyData.eqvAll,abt];exact⟨JM d h.1,xR ds h.2⟩
end
def Wv{d:PyData}(h:SeqAt.shaped d=true):PyData.eqv d d=true:=by unfold SeqAt.shaped at h;rw[abt] at h;exact JM d h.1
def isLoad:Rw->Bool
 | .load _ _=>true
 | _=>false
theorem vU{bs:List Int}{r:Rw}{c:Nat}(h:je r≠c):(dW ns bs r)[c]?=ns[c]? :=by cases r<;>first |rfl|(simp only[je] at h;simp only[dW];rw[List.getElem?_set_ne h])
theorem jU{bs:List Int}{r:Rw}(h:isLoad r=true):dW ns bs r=ns:=by cases r<;>first |rfl|cases h
def apart(r q:Rw):Prop:=je r≠je q\/(isLoad r=true/\isLoad q=true)
theorem apart.symm{r q:Rw}(h:apart r q):apart q r:=by
 rcases h with h|⟨a,b⟩
 .exact .inl h.symm
 .exact .inr ⟨b,a⟩
def apart.boxes{bs:List Int}{r q:Rw}(h:apart r q):uG (dW ns bs r) cs q=uG ns cs q:=by
 rcases h with h|⟨a,_⟩
 .cases q<;>first |rfl|(simp only[uG];have b:=vU (ns:=ns) (bs:=bs) h;simp only[je] at b;rw[b])
 .rw[jU a]
def apart.read{bs:List Int}{r q:Rw}(h:apart r q):Bf (dW ns bs r) q=Bf ns q:=by
 rcases h with h|⟨a,_⟩
 .cases q<;>first |rfl|(simp only[Bf];have b:=vU (ns:=ns) (bs:=bs) h;simp only[je] at b;rw[b])
 .rw[jU a]
def apart.cells{bs:List Int}{r q:Rw}(h:apart r q):dW (dW ns bs r) cs q=dW (dW ns cs q) bs r:=by
 rcases h with h|⟨a,b⟩
 .cases r<;>cases q<;>first |rfl|(simp only[je] at h;simp only[dW];exact List.set_comm _ _ h)
 .rw[jU a,jU b,jU a]
def jO{s:bJ}{r:Rw}(a:S.hs[k]?=some s)(b:s.rws[s.pos]?=some r):cG S k={S with ns:=dW S.ns s.bs r,hs:=S.hs.set k (lO S.ns s r),ts:=S.ts++[(k:Int)]}:=by unfold cG;simp only[a,b]
def nU{f g:Nat}{s t:bJ}{r q:Rw}(n:f≠g)(d:S.hs[f]?=some s)(e:s.rws[s.pos]?=some r)(c:S.hs[g]?=some t)(eq:t.rws[t.pos]?=some q):
 (cG S f).hs[g]?=some t/\cG (cG S f) g={S with ns:=dW (dW S.ns s.bs r) t.bs q,hs:=(S.hs.set f (lO S.ns s r)).set g (lO (dW S.ns s.bs r) t q),ts:=S.ts++[(f:Int)]++[(g:Int)]}:=by
 have b:=jO d e;have a:(cG S f).hs[g]?=some t:=by rw[b];show (S.hs.set f _)[g]?=_;rw[List.getElem?_set_ne n];exact c
 refine⟨a,?_⟩;rw[jO a eq,b]
def Qs{f g:Nat}{s t:bJ}{r q:Rw}(n:f≠g)(b:S.hs[f]?=some s)(c:s.rws[s.pos]?=some r)(a:S.hs[g]?=some t)(eq:t.rws[t.pos]?=some q)(ap:apart r q):
 (cG (cG S f) g).ns=(cG (cG S g) f).ns/\(cG (cG S f) g).hs=(cG (cG S g) f).hs:=by
 rw[(nU n b c a eq).2,(nU n.symm a eq b c).2];refine⟨ap.cells,?_⟩;show (S.hs.set f _).set g _=(S.hs.set g _).set f _;unfold lO;rw[ap.boxes,ap.symm.boxes,List.set_comm _ _ n]
end Prf
namespace L2
open PySem
def nw(H H':Hp):Hp:=λx=>match H x with
 | none=>H' x
 | some _=>none
def tW{x:Addr}{o:HO}(n:H x=none)(e:H' x=some o):nw H H' x=some o:=by unfold nw;rw[n];exact e
def Lj{x:Addr}{o:HO}(e:nw H H' x=some o):H x=none/\H' x=some o:=by
 unfold nw at e;cases q:H x with
 | none=>rw[q] at e;exact⟨Z,e⟩
 | some u=>rw[q] at e;cases e
def Oz(H H':Hp):Same (nw H H') H':=λx o e=>(Lj e).2
section
variable{Q:VK}{rest:St}{H1:Hp}
def nwB(H1:Hp)(D:Addr)(H:Hp):Hp:=λx=>if x=D then none else nw H1 H x
def OJ{H1:Hp}{x:Addr}{o:HO}(e:nwB H1 D H x=some o):x≠D/\H1 x=none/\H x=some o:=by
 unfold nwB at e
 by_cases z:x=D
 .rw[adq z] at e;cases e
 .rw[adp z] at e;exact⟨z,Lj e⟩
def VG{H1:Hp}{x:Addr}{o:HO}(z:x≠D)(n:H1 x=none)(e:H x=some o):nwB H1 D H x=some o:=by unfold nwB;rw[adp z];exact tW n e
def Jk{a:Hp}{o:HO}(s:Same H a):Same (nwB H1 D H) (nwB H1 D (upd a D o)):=λx u e=>by obtain⟨z,n,h⟩:=OJ e;exact VG z n (by rw[aF z];exact s _ _ h)
def OD{a:Hp}{o u:HO}(s:Same H1 H)(e:H D=some u):Same (nw H a) (nwB H1 D (upd a D o)):=λx v h=>by obtain⟨n,h⟩:=Lj h;have z:x≠D:=(aB e n).symm;exact VG z (s.free n) (by rw[aF z];exact h)
def VF:Same (nwB H1 D H) (nw H1 H):=λx o e=>by obtain⟨_,n,h⟩:=OJ e;exact tW n h
def RX(f:Nat->PyData)(h:H1 D=none)(m:n<=100000)(hs:∀i H (F:VK),i<n->Same H1 H->(∀y H',Same H H'->Dat (nw H H') y (f i)->F y H')->te (some (.int (0+i))::rest) H F)(k:∀H,Same H1 H->Dat (nw H1 H) (.ref D) (.list ((List.range n).map f))->Q (.ref D) H):iu (Xh 0 n) (bV 0) uO te Q D (none::rest) H1:=by
 refine iQ (lo:=0) (n:=n) (λi c H=>(∃v,c=v::rest)/\Same H1 H /\ ∃a,H D=some (.lst a)/\aV (nwB H1 D H) a ((List.range i).map f)) ⟨⟨none,Z⟩,aH h,[],ao,by simp[aV]⟩ ?_ (λc H ⟨_,b,a,e,d⟩=>k H b (oM (tW h e) (d.same VF _)));rintro i c H j ⟨⟨v,rfl⟩,b,a,e,d⟩;refine hs i H _ j b λy p g l=>?_;have o:a.length=i:=by rw[d.length];simp
 refine⟨a,g _ _ e,?_,⟨_,Z⟩,(b.trans g).newly h,a++[y],ao,?_⟩
 .rw[sizeLine_eq];lia
 .rw[List.range_succ,abd]
  exact iU (d.same (Jk g) _) (l.same (OD b e) _)
theorem RZ(f:Nat->PyData)(j:H1 D=none)(l:bF K H1 a xs)(p:xs.length<=100000)(hs:∀i x H (F:VK),xs[i]?=some x->Same H1 H->(∀y H',Same H H'->Dat (nw H H') y (f i)->F y H')->te (some x::rest) H F)(n:∀H,Same H1 H->Dat (nw H1 H) (.ref D) (.list ((List.range xs.length).map f))->Q (.ref D) H):iu (XD K a) (bV 0) uO te Q D (none::rest) H1:=by
 refine jC (K:=K) (xs:=xs) (λi g H=>(∃v,g=v::rest)/\Same H1 H /\ ∃b,H D=some (.lst b)/\aV (nwB H1 D H) b ((List.range i).map f)) ⟨⟨none,Z⟩,aH j,[],ao,by simp[aV]⟩ (λi g H _ ⟨_,c,_⟩=>c.sqL _ _ l) ?_ (λg H ⟨_,c,b,e,d⟩=>n H c (oM (tW j e) (d.same VF _)));rintro i x g H k ⟨⟨v,rfl⟩,c,b,e,d⟩;have m:i<xs.length:=(aam.mp k).1;refine hs i x H _ k c λy r h o=>?_;have q:b.length=i:=by rw[d.length];simp
 refine⟨b,h _ _ e,?_,⟨_,Z⟩,(c.trans h).newly j,b++[y],ao,?_⟩
 .rw[sizeLine_eq];lia
 .rw[List.range_succ,abd]
  exact iU (d.same (Jk h) _) (o.same (OD c e) _)
end
end L2
namespace PySem.W
open PySem PySem.Spec PySem.Calls PyProof.Rows
def ZP(K:Frag)(C:Addr):Bool:=match K.lookup C with
 | some ⟨.type "type",_,.cls cd,sl⟩=>(match cd.mro,sl.toList with
   | .ref a::bm,[_,_,_,_,some (.builtin n),_]=>a==C&&(n == "ValueError.__new__" && (!cd.hasDel&&(bm.contains (.type "ValueError")&&(bm.contains (.type "BaseException")&&(!bm.contains (.type "AttributeError") && !bm.contains (.type "NameError"))))))
   | _,_=>false)
 | _=>false
structure XJ(h:Heap)(C:Addr)(ob:Obj)(bm:zzt):Prop where
 at_:h.get? C=some ob
 ex:∃nm q N bs hdct sn sub ab col dd k0 k1 k2 k3 k5,ob=excClassObj nm q C N bs bm hdct sn sub ab col dd k0 k1 k2 k3 k5 "ValueError.__new__"
 v:bm.contains (.type "ValueError")=true
 b:bm.contains (.type "BaseException")=true
 a:bm.contains (.type "AttributeError")=false
 n:bm.contains (.type "NameError")=false
def aaj{K:Frag}{h:Heap}(X:K.In h)(q:ZP K C=true):∃ob bm,XJ h C ob bm:=by
 unfold ZP at q;split at q
 .rename_i F p s0 d
  split at q
  .rename_i G c v u t s nn r em a
   simp only[abt,beq_iff_eq,Bool.not_eq_true'] at q;obtain⟨o,n,b,m,k,j,i⟩:=q;subst o n;obtain⟨E,D,B,A,z,y,x,f8,w,f,e⟩:=p;dsimp only at em b;subst em b
   have g:s0 = #[v,u,t,s,some (.builtin "ValueError.__new__"),r]:=by obtain⟨l⟩:=s0;simp only at a;rw[a]
   subst g;exact⟨_,c,X _ _ d,⟨_,_,_,_,_,_,_,_,_,_,_,_,_,_,_,Z⟩,m,k,j,i⟩
  .cases q
 .cases q
section
variable{prog:Program}{h:Heap}{g:Array GenState}{d:Drawn}{t:Nat}{os:OsState}{bm:zzt}
abbrev uL(rest:zzt):Obj:={cls:= .type "tuple",data:= .seq rest.toArray}
abbrev xNew(C T:Addr):Obj:={cls:= .ref C,data:= .fields #[.ref T,.none,.none,.none,.bool false,.none]}
def Tf{M:Model}(J:XJ h C ob bm){rest:zzt}{Q:zzu}(f:Q () ⟨h,g,d,t,os⟩):
 wpAny M A (checkBuiltinCall "ValueError.__new__" ⟨.ref C::rest,[]⟩) Q E ⟨h,g,d,t,os⟩:=by
 have b:=F.excBase_ValueError;obtain⟨a,⟨nm,q,N,bs,c,sn,sub,s,col,r,m,l,k,j,i,rfl⟩,e,o,p,n⟩:=J;have yes:(Value.ref C::bm).contains (.type "ValueError")=true:=by rw[List.contains_cons,e,Bool.or_true]
 have star:=b.noStar;simp only[checkBuiltinCall,b.newKind,b.newSplit,b.newRow]
 repeat (first
  | refine wpAny_loadPart_at a ?_
  | (refine wpAny_isSubtype_exc a ?_;rw[yes])
  | refine wpAny_staticBase_exc a ?_
  | refine wpAny_madeBy_exc a ?_
  | simp only[bne_self_eq_false,Bool.false_eq_true,if_false]
  | wp_step)
 exact f
def aa3{R:Result->Shared->Prop}(J:XJ h C ob bm){rest:zzt}(l:R (.ok (.ret (.ref (h.objs.size+1)))) ⟨(h.push (uL rest)).push (xNew C h.objs.size),g,d,t,os⟩)(b:rest.length<=sizeLine):
 codeAny (model prog w) A (.builtin "ValueError.__new__" ⟨.ref C::rest,[]⟩) R ⟨h,g,d,t,os⟩:=by
 have a:=F.excBase_ValueError;obtain⟨c,⟨nm,q,N,bs,e,sn,sub,z,col,y,v,u,s,r,o,rfl⟩,k,x,n,m⟩:=J;have ends:=a.ends;have j:(Value.ref C::bm).contains (.type "ValueError")=true:=by rw[List.contains_cons,k,Bool.or_true]
 have i:(Value.ref C::bm).contains (.type "AttributeError")=false:=by rw[List.contains_cons,n];rfl
 have f:(Value.ref C::bm).contains (.type "NameError")=false:=by rw[List.contains_cons,m];rfl
 refine codeAny_builtinAt a.entry ?_;unfold Builtin.«BaseException.__new__»;refine wpAt_bind ?_;show wpAt _ _ _ (stack >>= _) _ _ _;refine wpAt_bind (wpAt_stack λp below=>wpAt_of_wpAny ?_)
 wp_walk
 refine wpAt_of_wpAny ?_;rw[a.owner]
 repeat (first
  | with_reducible refine wpAny_madeHere_exc a.canon c ?_
  | with_reducible refine wpAny_loadPart_at c ?_
  | (with_reducible refine wpAny_isSubtype_exc c ?_;first |rw[j]|rw[i]|rw[f])
  | wp_step)
 show R _ _;rw[Heap.size_push];exact l
theorem XH{R:Result->Shared->Prop}(J:XJ h C ob bm){rest:zzt}(hi:Looks (model prog w) h (typeLookup (.ref C) "__init__") (some (.ref f)))(D:∀self,Looks (model prog w) h (bindSpecial (.ref f) self) (.ref f,[self]))(a:rest.length<=sizeLine)(y:codeAny (model prog w) (A.under (.builtin "type.__call__" ⟨.ref C::rest,[]⟩)) (.call (.ref f) ⟨.ref (h.objs.size+1)::rest,[]⟩) (InitBack (h.objs.size+1) R) ⟨(h.push (uL rest)).push (xNew C h.objs.size),g,d,t,os⟩):
 codeAny (model prog w) A (.call (.ref C) ⟨rest,[]⟩) R ⟨h,g,d,t,os⟩:=by
 have n:=J;obtain⟨c,⟨nm,q,N,bs,m,sn,sub,ab,col,X,O,M,L,K,I,rfl⟩,P,B,T,Q⟩:=J;have W:=tc_lookup;have V:=tc_bind (.ref C);have ty:(⟨h,g,d,t,os⟩:Shared).TypeIs (.ref C) "type" :=⟨_,c,Z⟩;refine codeAny_of_tree ?_;show wpAny _ _ (callAny (.ref C) _) _ _ _
 repeat (any_goals (first
  | assumption
  | with_reducible refine wpAny_loadPart_at c ?_
  | wp_step))
 refine⟨Z,?_⟩;refine codeAny_call_builtin_at (Code.quiet_builtin _ (by decide +kernel)) entry_typeCall (wpAny_check_type_call_sub c ?_)
 repeat (first
  | with_reducible refine wpAny_loadPart_at c ?_
  | with_reducible refine wpAny_madeBy_exc c ?_
  | wp_step)
 refine codeAny_call_builtin_code (Code.quiet_builtin _ F.excBase_ValueError.quiet) (Tf n ?_);refine aa3 n ?_ a;show wpAny _ _ _ _ _ _;have i:∀b o,h.get? b=some o->((h.push (uL rest)).push (xNew C h.objs.size)).get? b=some o:=λb o e=>aaq _ (aaq _ e);have x:((h.push (uL rest)).push (xNew C h.objs.size)).get? (h.objs.size+1)=some (xNew C h.objs.size):=by heap_get
 have j:=i _ _ c;have self:(Value.ref C::bm).contains (.ref C)=true:=by simp
 have u:=hi.keeps i;have G:=(D (.ref (h.objs.size+1))).keeps i;have t1:Looks (model prog w) ((h.push (uL rest)).push (xNew C h.objs.size)) (typeOf (.ref (h.objs.size+1))) (.ref C):=(Looks.ld x).andThen .now
 have p:Looks (model prog w) ((h.push (uL rest)).push (xNew C h.objs.size)) (isSubtype (.ref C) (.ref C)) true:=λA' Q' E' l k z=>by obtain⟨S,U,Y,H,s⟩:=l;refine wpAny_isSubtype_exc (k _ _ j) ?_;rw[self];exact z
 show wpAny _ _ (isInstance (.ref (h.objs.size+1)) (.ref C) >>= _) _ _ ⟨(h.push (uL rest)).push (xNew C h.objs.size),g,d,t,os⟩;unfold isInstance;refine aaB (aaB (t1.here (p.here ?_)));simp only[Bool.not_true,Bool.false_eq_true,if_false];refine aaB (wpAny_holding ?_);show wpAny _ _ (callSpecial? (.ref (h.objs.size+1)) "__init__" rest []) _ _ _;unfold callSpecial? specialOf;refine aaB (aaB (t1.here (u.here ?_)));refine wpAny_holding (aaB (G.here ?_));refine aaB (wpAny_call ?_);refine codeAny_mono (show codeAny (model prog w) (A.under (.builtin "type.__call__" ⟨.ref C::rest,[]⟩)) (.call (.ref f) ⟨.ref (h.objs.size+1)::rest,[]⟩) (InitBack (h.objs.size+1) R) ⟨(h.push (uL rest)).push (xNew C h.objs.size),g,d,t,os⟩ from y) λr l z=>?_;cases r with
 | error e=>exact z
 | ok E=>
   cases E with
   | ret v=>
     obtain⟨rfl,z⟩:=z;exact aaD (aaD z)
   | next=>exact z.elim
   | brk=>exact z.elim
   | cont=>exact z.elim
def S_{M:Model}{x:Sem Value}{Q:Flow->Shared->Prop}(m:A.handled=none)(h:wpAny M A x (λv a=>∃e oe ob bm vs,v=.ref e/\XJ a.heap C ob bm/\a.heap.get? e=some oe/\oe.cls=.ref C/\oe.data=.fields vs/\vs[1]?=some .none/\E (.ref e) a) E s):
 wpAny M A (raiseStmt env (some x) none) Q E s:=by
 unfold raiseStmt;refine aaB (wpAny_mono h (λv a b=>?_) λ_ _ x=>x);obtain⟨e,oe,ob,bm,vs,rfl,⟨j,⟨nm,q,N,bs,c,sn,sub,L,col,K,F,D,B,z,y,rfl⟩,G,o,J,I⟩,n,i,f,r,p⟩:=b;obtain⟨H,g,d,t,os⟩:=a;obtain⟨w,u,l,k⟩:=oe;simp only at i f;subst i f;have yes:(Value.ref C::bm).contains (.type "BaseException")=true:=by rw[List.contains_cons,o,Bool.or_true]
 repeat (first
  | with_reducible refine wpAny_loadPart_at n ?_
  | with_reducible refine wpAny_loadPart_at j ?_
  | (with_reducible refine wpAny_isSubtype_exc j ?_;rw[yes])
  | wp_step)
 rw[r];refine aaD ?_;rw[adp DZ];exact aaD (wpAny_raiseNew_none m p)
end
end PySem.W
namespace PySem.W
open PySem PySem.Spec PySem.Calls PyProof.Rows Builtin Builtin.ObjectAttr
def zj:List Value->Bool
 | .ref _::r=>zj r
 | l=>l==[.type "ValueError",.type "Exception",.type "BaseException",.type "object"]
def K7(self:Value){l:zzt}(e:zj l=true):refuseLoop self "__setattr__" l=pure ():=by
 induction l with
 | nil=>cases e
 | cons v r a=>
   cases v<;>first
    | (rw[refuseLoop_ref];exact a e)
    | (cases (beq_iff_eq.mp e:(_:zzt)=_);done)
    | (rw[(beq_iff_eq.mp e:(_:zzt)=_)];exact F.store_ValueError.passes self)
structure XSa(K:Frag)(C:Addr):Prop where
 sa:findIn K (.ref C) "__setattr__" = some (some (.builtin "object.__setattr__"))
 mo:mroIn K C (.type "object")=some true
 cl:((clsIn K C).any λcd=>cd.hasDict&&zj cd.mro)=true
section
variable{prog:Program}{K:Frag}{e:Addr}{vs:Array Value}{v:Value}
theorem aa2{Q:zzu}(X:K.In s.heap)(x:XSa K C)(B:findIn K (.ref C) name=some none)(he:s.heap.get? e=some oe)(r:oe.cls=.ref C)(n:oe.dict=none)(i:oe.data=.fields vs)(h:∀h',h'.get? e=some {oe with dict:=some s.heap.objs.size}->h'.Ns1 s.heap.objs.size (λy=>if y=name then some v else none)->(∀b o,b≠e->s.heap.get? b=some o->h'.get? b=some o)->Q () {s with heap:=h',toks:=s.toks+2}):
 wpAny (model prog w) A (setAttr (.ref e) name v) Q E s:=by
 have I:InstAt s.heap e oe C none:=⟨he,r,by obtain⟨S,R,P,u⟩:=oe;simp only at i;subst i;rfl,by rw[n];trivial⟩
 refine set_plain X I x.sa ?_;have g:=F.store_object;obtain⟨cd,f,H⟩:=any_some x.cl;obtain⟨L,J⟩:=Bool.and_eq_true_iff.mp H;have sub:Looks (model prog w) s.heap (isInstance (.ref e) (.type "object")) true:=I.type.andThen (looks_mroIn X x.mo);refine codeAny_call_builtin g.slot.plain g.entry (@check_slot (model prog w) _ _ {s with toks:=s.toks+1} "object.__setattr__" "object" "__setattr__" (.ref e) [.str name s.toks,v] [] _ g.kind g.split sub (g.args (.ref e) (.str name s.toks) v) ?_);have D:Looks (model prog w) s.heap (mroOf (.ref C)) cd.mro:=(looks_clsIn X f).andThen .now;rw[osa_eq,refuse_eq];refine aaB (aaB (Looks.here (s:={s with toks:=s.toks+1}) I.type (aaB (Looks.here (s:={s with toks:=s.toks+1}) D ?_))));rw[K7 _ J];refine aaD (aaB (Looks.here (s:={s with toks:=s.toks+1}) I.type (aaB (Looks.here (s:={s with toks:=s.toks+1}) (looks_findIn X B) ?_))));refine aaB (Looks.here (s:={s with toks:=s.toks+1}) (.now:Looks (model prog w) s.heap (storeTaker? none) none) ?_);obtain⟨S,R,P,u⟩:=oe;simp only at r n i;subst r n i;refine aaB (aaD (aaB (aaB (wpAny_loadPart he (aaB (Looks.here (s:={s with toks:=s.toks+1}) (looks_clsIn X f) ?_))))));rw[L];have a:e≠s.heap.objs.size:=aa7 (aas he);have d:=aaq {cls:= .type "dict",data:= .dict #[]} he;refine aaB (wpAny_alloc' ?_);refine aaB (wpAny_update' d ?_);refine aaD ?_;show wpAny _ _ (storeInDict s.heap.objs.size (.str name s.toks) name v) _ _ _;unfold storeInDict newKeyGuard;generalize t:((s.heap.push {cls:= .type "dict",data:= .dict #[]}).update e λo=>{cls:=o.cls,dict:=some s.heap.objs.size,data:=o.data,slots:=o.slots})=G
 have M:G.get? s.heap.objs.size=some {cls:= .type "dict",data:= .dict #[]}:=by rw[←t];exact(Heap.get?_update_ne _ _ _ _ a.symm).trans (Heap.get?_push_at rfl rfl)
 have ge:G.get? e=some {cls:= .ref C,dict:=some s.heap.objs.size,data:= .fields vs,slots:=u}:=by rw[←t];exact Heap.get?_update_self _ d rfl
 have go:∀b o,b≠e->s.heap.get? b=some o->G.get? b=some o:=λb o j q=>by rw[←t];exact(Heap.get?_update_ne _ _ _ _ j).trans (aaq _ q)
 have l:G.Ns s.heap.objs.size (λ_=>none):=⟨_, #[],_,M,Z,λe he=>adt he MZ,λ_=>rfl⟩;refine aaB (aaD (aaB (wpAny_nsSet1 (Heap.Ns1.of_empty l) λh' c z=>?_)));obtain⟨oD,N,O,k,m,p⟩:=c.count (Within.cons name v Within.nil);refine aaB (wpAny_lookBehind k (by rw[m];exact pastItsLine_dict (adl p (by rw[ac8,List.length_nil,sizeLine_eq];lia))) ?_);exact aaD (h h' ((z.2 e a).trans ge) c λb o j q=>(z.2 b (aa7 (aas q))).trans (go b o j q))
theorem aa4(X:K.In s.heap)(I:InstAt s.heap e oe C odo)(c:findIn K (.ref C) "__getattribute__" = some (some (.builtin "BaseException.__getattribute__")))(j:findIn K (.ref C) "__getattr__" = some none)(m:mroIn K C (.type "BaseException")=some true)(l:findObj K C odo name=some (.value v))(i:handedIn v=true)(h:Q v {s with toks:=s.toks+1}):
 wpAny (model prog w) A (getAttr (.ref e) name expr) Q E s:=by
 obtain⟨k,g,d,t,os⟩:=s;have f:=I.type (M:=model prog w);have p:=looks_findIn (M:=model prog w) X c;have L2:=looks_findIn (M:=model prog w) X j;have o:=looks_find (M:=model prog w) X I l;have a:(Value.builtin "BaseException.__getattribute__" == Value.builtin "object.__getattribute__")=false:=by decide +kernel
 have n:=(F.attr_Exception.ga).bind (.ref e);have b:(expr&&onTheHeap (Value.builtin "BaseException.__getattribute__"))=false:=by cases expr<;>rfl
 unfold getAttr getAttrBy;refine aaB (wpAny_mkText (wpAny_holding (aaB (f.at (aaB (p.at ?_))))));simp only[a,Bool.and_false,Bool.false_eq_true,if_false];unfold getAttrByItsOwn hookBefore;show wpAny _ _ (typeLookup (.ref C) "__getattr__" >>= _) _ _ _;refine aaB (L2.at ?_);refine aaB (wpAny_attempt (wpAny_holding ?_));unfold callGetattribute boundAndCalled;rw[b,adp DZ];refine aaB (wpAny_of_eq n ?_);refine wpAny_call (codeAny_call_builtin (F.attr_Exception.ga).plain F.entry_bexc_ga (EY (s:=⟨k,g,d,t+1,os⟩) X I m ?_));show wpAny _ _ (Builtin.«object.__getattribute__» ⟨[.ref e,.str name t],[]⟩) _ _ _;unfold Builtin.«object.__getattribute__»;refine aaB (aaD ?_);refine aaB (aaD ?_);refine aaB (f.at (aaB (o.at ?_)));refine aaD ?_;exact handed_on i h
end
end PySem.W
namespace L2
open PySem PySem.Spec PyProof.Rows
def Qh(C:Addr)(a:Option Addr)(e:Addr):HO:= .ext λh=>∃oe vs,h.get? e=some oe/\oe.cls=.ref C/\oe.dict=a/\oe.data=.fields vs/\vs[1]?=some .none
def VD{h:Heap}{e:Addr}(x:∃oe vs,h.get? e=some oe/\oe.cls=.ref C/\oe.dict=dx/\oe.data=.fields vs/\vs[1]?=some .none):dU P w H h e (Qh C dx e):=by obtain⟨oe,vs,q,r⟩:=x;exact⟨⟨oe,vs,q,r⟩,⟨oe,q⟩,λf d ⟨c,v1,b,a⟩ k=>⟨c,v1,k _ b,a⟩⟩
section
variable{e:Addr}
def Inv.X6(I:Inv X pins σ (upd H e (.ext φ)) s)(he:H e=none):Inv X pins σ H s:=by
 have nn:∀b o,(upd H e (.ext φ)) b=some o->(∀d,o ≠ .ext d)->H b=some o:=λb o q n=>by
  by_cases z:b=e
  .rw[z,ao] at q;exact adt (aaY q).symm (n φ)
  .rw[aF z] at q;exact q
 have no:∀b,(upd H e (.ext φ)) b=none->H b=none:=λb q=>by
  by_cases z:b=e
  .rw[z,ao] at q;cases q
  .rw[aF z] at q;exact q
 refine⟨I.ok,I.os,I.bare,⟨I.base.keep,I.base.slot,λb o q n i=>no b (I.base.free b o q n i),I.base.there,λb f q=>nn _ _ (I.base.tups b f q) ZY,λb o u q=>nn _ _ (I.base.vM b o u q) ZY,λb g q=>?_⟩,I.loc,I.cell,no _ I.free,λx c q=>no _ (I.jr x c q),λp h=>?_,λa o q=>?_,I.len⟩
 .obtain⟨more,r⟩:=I.base.wI b g q
  exact⟨more,nn _ _ r ZY⟩
 .obtain⟨l,k,j⟩:=I.pin p h
  exact⟨l,no _ k,j⟩
 .have na:a≠e:=aB q he
  refine(I.hok a o (by rw[aF na];exact q)).stay (λ_ _ _ z=>z) (λb z=>nn _ _ z ZY) λb m z=>nn _ _ z ZY
end
def aeh(K:zzy)(b a:TE)(f:Str):TS:=λD σ H=>a σ H λy H1=>b σ H1 λx H2=>∃e C,x=.ref e/\H2 e=some (Qh C none e)/\W.XSa K C/\eG K C f /\ ∀d,H2 d=none->D.nx σ (upd (upd H2 d (.xd [(f,y)])) e (Qh C (some d) e))
section
variable{o:Expr}{f:Str}
theorem YC(Q:X.K=K)(P:PE X o ta)(N:PE X value tv)(hs:swapsWith value (some (.Attribute o f pos')) pos.line X.env=pure false):PS X (.Assign [.Attribute o f pos'] value pos) (aeh K ta tv f):=by
 subst Q;intro d s l H D I h;refine plainObj_wpAny_Assign_Attribute (dM (N d s l H _ I h) λu B ⟨y,H1,I1,E,q⟩=>dM (P d B l H1 _ I1 q) λJ c ⟨x,H2,k,F,e,C,ex,v,w,na,q2⟩=>?_) hs;subst ex;obtain rfl:J=Value.ref e:=F;obtain⟨⟨oe,A,p,t,O,n,R⟩,_⟩:=(show dU X.prog X.w H2 c.heap e (Qh C none e) from k.hok e _ v);refine W.aa2 k.oO w na p t O n λh' ge S go=>?_;have L:=k.hok.fresh (aav c.heap.objs.size);have m:e≠c.heap.objs.size:=aa7 (aas p);refine⟨l,_,?_,q2 _ L⟩;obtain⟨i,U,V,j,r⟩:=id S
 have T:i.isFreed=false:=by
  cases q:i.isFreed with
  | false=>rfl
  | true=>exact adt ((Heap.get?_some_iff.mp j).2) (by rw[q];decide)
 have G:(c.heap.push i).get? c.heap.objs.size=some i:=aar _ T
 have J1:=k.laid (a:=c.heap.objs.size) (o:= .xd [(f,y)]) (h':=c.heap.push i) (t':=c.toks) (λb u q=>aaq _ q) (aav _) ⟨_,⟨i,U,V,G,r⟩,λg=>by
  show nM (List.lookup g [(f,y)]) (if g=f then some u else none)
  by_cases z:g=f
  .subst z
   rw[adq rfl,show List.lookup g [(g,y)]=some y by simp[List.lookup]];exact E
  .rw[adp z]
   have:(g==f)=false:=by simpa using z
   simp only[List.lookup,this];trivial⟩
 have Y:=J1.write (x:=e) (e:=e) (o:=Qh C (some c.heap.objs.size) e) (h':=h') (t':=c.toks+2) (by rw[aF m,v];exact True.intro) (.inl rfl) (λb u M q=>?_) ⟨_,ge⟩ (VD ⟨_,A,ge,t,Z,n,R⟩)
 .exact Y
 .rcases Heap.get?_push_cases q with ⟨rfl,rfl⟩|q
  .exact j
  .exact go b u M q
end
def Qi(P:Program)(w:World)(K:zzy)(mg:zzv)(base:Heap)(k:Nat)(C:Addr)(x:Str)(ps:List Str)(sp:Sp):Prop:=∃f fd,bN P w K mg base ig k f fd ps sp/\W.findIn K (.ref C) "__init__" = some (some (.ref f))/\W.typeIn K (.ref f)=some (.type "function")/\W.ZP K C=true/\mg x=some (.ref C)/\W.keepIn K (.ref C)=true/\Binds K fd ps []
theorem QF(M:Qi X.prog X.w X.K X.mg X.base k C x ps sp)(z:X.ex=[])(A:eU (k+1) X.A)(I:Inv X pins σ H s)(r:Vals vs us)(B:vs.length<=sizeLine)(h:∀e,H e=none->sp (.ref e::vs) (upd H e (Qh C none e)) (λv H2=>v=.non/\G e H2) E0):
 wpAny (model X.prog X.w) X.A (call (.ref C) us) (λv w=>∃e H2,v=.ref e/\Fo X pins H e/\Inv X pins σ H2 w/\G e H2) X.xe s:=by
 obtain⟨f,fd,F,E,K,D,U,Y,L⟩:=M;have fr:s.heap.get? (s.heap.objs.size+1)=none:=Heap.get?_none_of_le (Nat.le_succ _);have p:=I.xfp z fr;have q:=h _ p.1;have T:∀b o,s.heap.get? b=some o->((s.heap.push (W.uL us)).push (W.xNew C s.heap.objs.size)).get? b=some o:=λb o e=>aaq _ (aaq _ e)
 have N:((s.heap.push (W.uL us)).push (W.xNew C s.heap.objs.size)).get? (s.heap.objs.size+1)=some (W.xNew C s.heap.objs.size):=by have:=aar (s.heap.push (W.uL us)) (o:=W.xNew C s.heap.objs.size) rfl;rwa [Heap.size_push] at this
 have P:Inv X pins σ H {s with heap:=s.heap.push (W.uL us)}:=I.kept (t':=s.toks) λb o e=>aaq _ e
 have l:Inv X pins σ (upd H (s.heap.objs.size+1) (Qh C none (s.heap.objs.size+1))) {s with heap:=(s.heap.push (W.uL us)).push (W.xNew C s.heap.objs.size)}:=P.laid (a:=s.heap.objs.size+1) (o:=Qh C none (s.heap.objs.size+1)) (t':=s.toks) (λb o e=>aaq _ e) (Nat.le_of_eq (Heap.size_push _ _)) (VD ⟨_,_,N,Z,Z,Z,Z⟩)
 have m:Vals (V.ref (s.heap.objs.size+1)::vs) (Value.ref (s.heap.objs.size+1)::us):= .cons rfl r;have i:(Value.ref (s.heap.objs.size+1)::us).length=ps.length:=by rw[←m.length];exact F.len _ _ _ _ q
 have j:=L {s with heap:=(s.heap.push (W.uL us)).push (W.xNew C s.heap.objs.size)} (Value.ref (s.heap.objs.size+1)::us) l.oO (by rw[List.append_nil];exact i);rw[List.append_nil] at j;obtain⟨S,bm,J⟩:=W.aaj I.oO D;obtain⟨n,g,d,t,os⟩:=s;refine wpAny_call (W.XH J (W.looks_findIn I.oO E) (λself=>W.bind_fn I.oO self K) (by rw[←r.length];exact B) (codeAny_mono (F.run _ X.stack _ _ ⟨Value.ref (n.objs.size+1)::us,[]⟩ (Value.ref (n.objs.size+1)::us) _ _ E0 (A.make C us []) (l.env0.make C us []) j m q) λres R c=>?_))
 match res,c with
 | .error ev,c=>exact c.elim
 | .ok (.ret u),c=>
   obtain⟨v,Q,O,y,ev,q3⟩:=l.after c;subst ev;exact⟨y,⟨_,Q,Z,p,O,q3⟩⟩
def Ye(C:Addr)(sp:Sp)(E:St->XK)(t:TA):TS:=λ_ σ H=>t σ H λvs H1=>vs.length<=sizeLine /\ ∀e,H1 e=none->sp (.ref e::vs) (upd H1 e (Qh C none e)) (λv H2=>v=.non /\ ∃d a,H2=upd a e (Qh C (some d) e)/\a e=none/\E σ (.ref C) (some d) a) E0
section
variable{t:TA}{p:Pos}{E:St->XK}
theorem QH(M:Qi X.prog X.w X.K X.mg X.base k C x ps sp)(B:X.ex=[])(T:X.calm=true)(R:Rz X E)(K:eU (k+1) X.A)(S:Gl X x)(U:PA X (e::es) t)(hdb:(x==("__debug__" :Str))=false:=by decide)(he:starEach (e::es) X.env=(false,eval e X.env)::starEach es X.env:=by rfl)(hpl:(backTo cpos (starEach es X.env)).any (·.1)=false:=by rfl):
 PS X (.Raise (some (.Call (.Name x p) (e::es) [] cpos)) none pos) (Ye C sp E t):=by
 have L:=M;obtain⟨f,fd,F,hi,hf,P,hmg,O,hb⟩:=L;intro a s j H D I h;rw[arm_exec_Raise];refine aaB (wpAny_standAt ?_);simp only[evalOpt,Option.map];refine W.S_ (C:=C) (I.ok.hd T) (aaB (wpAny_mono (Q:=λv g=>∃e b m bm l,v=.ref e/\W.XJ g.heap C m bm/\g.heap.get? e=some b/\b.cls=.ref C/\b.data=.fields l/\l[1]?=some .none/\X.xe (.ref e) g) ?_ (λv g z=>aaB (wpAny_standAt (aaD z))) λ_ _ z=>z));refine wpAny_Call_Name_kw (pN I S hmg ?_ hdb);refine W.callWith_K (h₀:=X.base) I.ok.mod.V7 O (dM (U cpos a s j H _ I h) λus g ⟨l,H1,A,r,N,q⟩=>⟨A.oO,?_⟩) he hpl;refine wpAny_mono (QF (G:=λe H2=>∃d i,H2=upd i e (Qh C (some d) e)/\i e=none/\E j (.ref C) (some d) i) M B K A r N q) (λv o ⟨e,H2,ev,V,n,d,i,Y,y,q3⟩=>?_) λ_ _ z=>z;subst ev Y;obtain⟨⟨b,c,g1,g2,g3,w,u⟩,_⟩:=(show dU X.prog X.w _ o.heap e (Qh C (some d) e) from n.hok e _ ao);obtain⟨m,bm,J⟩:=W.aaj n.oO P;have I3:=n.X6 y;exact⟨e,b,m,bm,c,Z,J,g1,g2,w,u,R a j i o e (.ref C) (some d) none (.inl rfl) I3 ⟨y,V.2⟩ ⟨b,c,g1,g2,g3,w,u⟩ q3⟩
end
def XAt(H:Hp)(e C:Addr)(a:List (Str×V)):Prop:=(H e=some (XO C none e)/\a=[]) \/ ∃d,H e=some (XO C (some d) e)/\H d=some (.xd a)
def ad5(K:zzy)(b:TE)(f:Str):TE:=λσ H Q=>b σ H λx H1=>∃e C d a v,x=.ref e/\H1 e=some (XO C (some d) e)/\H1 d=some (.xd a)/\W.Xc K C/\W.hasDictIn K C=true/\eG K C f/\a.lookup f=some v/\Q v H1
section
variable{f:Str}
def Nf{a:Addr}{c:List (Str×V)}(I:Inv X pins σ H s)(he:H a=some (XO C (some d) a))(k:H d=some (.xd c)):∃(ox od:Obj) (mA:zzv),W.InstAt s.heap a ox C (some od)/\(∀f,nM (c.lookup f) (mA f)) /\ ∀name,W.lookIn name od=some (mA name):=by obtain⟨⟨e,m,q,l,b,j⟩,_⟩:=(show dU X.prog X.w H s.heap a (XO C (some d) a) from I.hok a _ he);obtain⟨mA,g,r⟩:=(show dU X.prog X.w H s.heap d (.xd c) from I.hok d _ k);obtain⟨od,h,i⟩:=En g;exact⟨e,od,mA,⟨q,l,tX j,by rw[b];exact h⟩,r,i⟩
def YM(A:X.K=K)(he:PE X e ta)(z:attributeBase e f X.env (eval e X.env)=eval e X.env):PE X (.Attribute e f pos) (ad5 K ta f):=by subst A;intro b s j H Q I h;refine Qe z (dM (he b s j H _ I h) λu F p=>?_);obtain⟨x,H1,g,k,a,C,d,M,v,ex,D,B,c,y,n,l,q⟩:=p;subst ex;obtain rfl:u=Value.ref a:=k;obtain⟨G,L,m,J,r,w⟩:=Nf g D B;obtain⟨E,t,i⟩:=nM.some_of (v:=v) (o:=m f) (by rw[←l];exact r f);exact W.aa4 g.oO J c.hga c.hk c.hB (W.findObj_own y n rfl (by rw[w,t])) (Eu i) ⟨v,H1,g.tok _,i,q⟩
def Tj{a:Addr}{e:List (Str×V)}(I:Inv X pins σ H s)(x:XAt H a C e):∃ox odo,W.InstAt s.heap a ox C odo:=by
 rcases x with ⟨h,_⟩|⟨d,h,c⟩
 .exact XF (I.hok a _ h)
 .obtain⟨ox,b,_,J,_⟩:=Nf I h c
  exact⟨ox,some b,J⟩
def J9{c:Value}(j:X.K=K)(rc:∀u,RelV cv u->u=c):jm X (.builtin "isinstance") (λxs H Q=>∃(e C:Addr) (d:List (Str×V)) (b:Bool),xs=[.ref e,cv]/\XAt H e C d/\W.Xc K C/\W.kitOne K (.ref C) c=some b/\Q (.bl b) H):=by subst j;intro a s m H xs o Q I r h;obtain⟨e,C,d,b,rfl,k,f,l,q⟩:=h;obtain⟨u,n,rfl,i,g⟩:=vals2 r;cases (show u=Value.ref e from i);have:=rc _ g;subst this;exact W.kia_one (W.V5 f) I.oO (Tj I k) l ZN λp=>⟨.bl b,H,I.tok _,Z,q⟩
end
structure Xf(K:zzy)(mg:zzv)(C:Addr)(nm f:Str):Prop where
 bd:mg nm=some (.ref C)
 hd:XHd K C
 xc:W.Xc K C
 ve:W.subIn K (.ref C) (.type "ValueError")=some true
 sa:W.XSa K C
 dc:W.hasDictIn K C=true
 na:eG K C f
end L2
namespace Prf
open PySem L2
structure Tc where
 (k:Nat) (r:Rw) (rd wr:Option Int)
inductive Qm(S:dD)(t:Tc):Prop|m:∀s,S.hs[t.k]?=some s->s.st = "waits" -> s.rws[s.pos]?=some t.r->t.rd=Bf S.ns t.r->t.wr=Ng s.bs t.r->Qm S t
def Run:dD->List Tc->dD->Prop
 | S,[],S'=>S'=S
 | S,t::l,S'=>Qm S t/\Run (cG S t.k) l S'
structure Ia(S T:dD):Prop where
 m:S.m=T.m
 ns:S.ns=T.ns
 hs:S.hs=T.hs
 ts:S.ts.Perm T.ts
theorem Ia.refl(S:dD):Ia S S:=⟨Z,Z,Z,List.Perm.refl _⟩
theorem Ia.trans{S T U:dD}(a:Ia S T)(b:Ia T U):Ia S U:=⟨a.m.trans b.m,a.ns.trans b.ns,a.hs.trans b.hs,a.ts.trans b.ts⟩
def Qm.alk{T:dD}{t:Tc}(h:Qm S t)(a:Ia S T):Qm T t:=by obtain⟨s,f,e,d,c,b⟩:=h;exact⟨s,by rw[←a.hs];exact f,e,d,by rw[←a.ns];exact c,b⟩
def Qm.turn{t:Tc}(h:Qm S t):∃s,S.hs[t.k]?=some s/\s.rws[s.pos]?=some t.r/\cG S t.k={S with ns:=dW S.ns s.bs t.r,hs:=S.hs.set t.k (lO S.ns s t.r),ts:=S.ts++[(t.k:Int)]}:=by obtain⟨s,b,_,a,_⟩:=h;exact⟨s,b,a,jO b a⟩
def Tz{T:dD}{t:Tc}(h:Qm S t)(a:Ia S T):Ia (cG S t.k) (cG T t.k):=by
 obtain⟨s,d,c,e⟩:=h.turn;have b:T.hs[t.k]?=some s:=by rw[←a.hs];exact d
 rw[e,jO b c];exact⟨a.m,by show dW _ _ _=dW _ _ _;rw[a.ns],by show List.set _ _ _=List.set _ _ _;rw[a.hs,a.ns],a.ts.append_right _⟩
theorem Run.alk:∀{l:List Tc}{S T S':dD},Run S l S'->Ia S T -> ∃T',Run T l T'/\Ia S' T'
 | [],S,T,S',h,a=>⟨T,Z,by have h:S'=S:=h;rw[h];exact a⟩
 | t::l,S,T,S',⟨h1,b⟩,a=>by obtain⟨T',r,c⟩:=Run.alk b (Tz h1 a);exact⟨T',⟨h1.alk a,r⟩,c⟩
theorem Run.det:∀{l:List Tc}{S T T':dD},Run S l T->Run S l T'->T=T'
 | [],S,T,T',h,h'=>by have h:T=S:=h;have h':T'=S:=h';rw[h,h']
 | t::l,S,T,T',h,h'=>Run.det h.2 h'.2
theorem Run.app:∀{p q:List Tc}{S S':dD},Run S (p++q) S' ↔ ∃T,Run S p T/\Run T q S'
 | [],q,S,S'=>⟨λh=>⟨S,Z,h⟩,λ⟨T,h1,c⟩=>by have h1:T=S:=h1;rw[h1] at c;exact c⟩
 | t::p,q,S,S'=>by
   constructor
   .rintro⟨h1,c⟩
    obtain⟨T,a,b⟩:=Run.app.mp c;exact⟨T,⟨h1,a⟩,b⟩
   .rintro⟨T,⟨h1,a⟩,b⟩
    exact⟨h1,Run.app.mpr ⟨T,a,b⟩⟩
def stepT(x y:Tc):Prop:=x.k=y.k \/ ¬apart x.r y.r
theorem Run.swap{S m:dD}{x y:Tc}{l:List Tc}(n:¬stepT x y)(h:Run S (x::y::l) m):∃f,Run S (y::x::l) f/\Ia m f:=by
 obtain⟨D,C,E⟩:=h;have e:x.k≠y.k:=λz=>n (.inl z);have ap:apart x.r y.r:=Classical.byContradiction λz=>n (.inr z);obtain⟨s,d,B,c,A,w⟩:=id D;obtain⟨t,t1,v,t3,u,q⟩:=id C;have ex:=jO d c
 have b:S.hs[y.k]?=some t:=by rw[ex] at t1;have t1:(S.hs.set x.k _)[y.k]?=some t:=t1;rwa [List.getElem?_set_ne e] at t1
 have k:=jO b t3
 have i:Qm S y:=⟨t,b,v,t3,by rw[u,ex];exact ap.read,q⟩
 have g:(cG S y.k).hs[x.k]?=some s:=by rw[k];show (S.hs.set y.k _)[x.k]?=some s;rw[List.getElem?_set_ne (Ne.symm e)];exact d
 have j:Qm (cG S y.k) x:=⟨s,g,B,c,by rw[A,k];exact ap.symm.read.symm,w⟩
 obtain⟨p,o⟩:=Qs e d c b t3 ap
 have al:Ia (cG (cG S x.k) y.k) (cG (cG S y.k) x.k):=by
  refine⟨?_,p,o,?_⟩
  .rw[(nU e d c b t3).2,(nU (Ne.symm e) b t3 d c).2]
  .rw[(nU e d c b t3).2,(nU (Ne.symm e) b t3 d c).2]
   show (S.ts++[(x.k:Int)]++[(y.k:Int)]).Perm (S.ts++[(y.k:Int)]++[(x.k:Int)]);rw[List.append_assoc,List.append_assoc];exact List.Perm.append_left _ (List.Perm.swap _ _ _)
 obtain⟨f,r,a⟩:=E.alk al;exact⟨f,⟨i,j,r⟩,a⟩
theorem Run.front:∀{pre:List Tc}{S S':dD}{x:Tc}{post:List Tc},(∀p∈pre,¬stepT p x)->Run S (pre++x::post) S' -> ∃b,Run S (x::(pre++post)) b/\Ia S' b
 | [],S,S',x,post,_,h=>⟨S',h,Ia.refl _⟩
 | p::pre,S,S',x,post,n,⟨h1,e⟩=>by obtain⟨T,r,a⟩:=Run.front (λq d=>n q (.tail _ d)) e;obtain⟨U,c,f⟩:=Run.swap (n p (.head _)) (show Run S (p::x::(pre++post)) T from ⟨h1,r⟩);exact⟨U,c,a.trans f⟩
inductive yF(l:List Tc):List Nat->Prop
 | nil:yF l []
 | snoc {o:List Nat} {a:Nat} {x:Tc} (h:yF l o) (e:l[a]?=some x) (n:a∉o) (q:∀m y,m<a->l[m]?=some y->stepT y x->m∈o):yF l (o++[a])
def pick(l:List Tc)(o:List Nat):List Tc:=o.filterMap λi=>l[i]?
def qM(l:List Tc)(o:List Nat):List Nat:=(List.range l.length).filter λi=> !o.contains i
theorem vQ{p:Nat->Bool}{a:Nat}:∀n,a<n->p a=true->(List.range n).filter p=(List.range a).filter p++a::((List.range n).filter λi=>p i&&decide (a<i))
 | 0,h,_=>by lia
 | n+1,h,q=>by
   rw[List.range_succ,ado,ado];rcases Nat.lt_or_ge a n with l|l
   .have f:List.filter (λi=>p i&&decide (a<i)) [n]=List.filter p [n]:=by rw[acT,acT];cases p n<;>simp[l]
    rw[vQ n l q,f];simp
   .have:a=n:=by lia
    subst this;have e:List.filter p [a]=[a]:=by rw[acT,adq q];rfl
    have d:(List.range a).filter (λi=>p i&&decide (a<i))=[]:=List.filter_eq_nil_iff.mpr λi b z=>by have:=acS.mp b;simp at z;lia
    have c:List.filter (λi=>p i&&decide (a<i)) [a]=[]:=by rw[acT];simp
    rw[e,d,c];simp
def Ed{l:List Tc}{o:List Nat}{a:Nat}(g:a<l.length)(n:a∉o):∃pre post,qM l o=pre++a::post/\qM l (o++[a])=pre++post /\ ∀m∈pre,m<a/\m∉o:=by
 have d:(!o.contains a)=true:=by simpa using n
 have e:=vQ (p:=λi=> !o.contains i) l.length g d;refine⟨_,_,e,?_,λm f=>?_⟩
 .unfold qM
  have c:∀i,(!(o++[a]).contains i)=((!o.contains i) && !decide (i=a)):=λi=>by
   rw[List.contains_append]
   by_cases q:i=a<;>simp[q]
  have k:(List.range l.length).filter (λi=> !(o++[a]).contains i)=((List.range l.length).filter λi=> !o.contains i).filter λi=> !decide (i=a):=by rw[List.filter_filter];refine List.filter_congr λi _=>?_;rw[c,Bool.and_comm]
  rw[k,e,ado,acT];simp only[decide_true,Bool.not_true,Bool.false_eq_true,if_false];congr 1
  .exact List.filter_eq_self.mpr λi b=>by have:=acS.mp (acJ.mp b).1;simp;lia
  .exact List.filter_eq_self.mpr λi b=>by have:=(acJ.mp b).2;simp at this ⊢;lia
 .obtain⟨j,h⟩:=acJ.mp f
  exact⟨acS.mp j,by simpa using h⟩
def jP(l:List Tc)(a b:List Nat):pick l (a++b)=pick l a++pick l b:=by unfold pick;rw[List.filterMap_append]
def jz{l:List Tc}{a:Nat}{x:Tc}(e:l[a]?=some x)(b:List Nat):pick l (a::b)=x::pick l b:=by unfold pick;rw[List.filterMap_cons,e]
def Uw(l:List Tc):pick l (qM l [])=l:=by
 unfold pick qM;have:(List.range l.length).filter (λi=> !([]:List Nat).contains i)=List.range l.length:=List.filter_eq_self.mpr λi _=>by simp
 rw[this];refine List.ext_getElem? λi=>?_
 have gen:∀n,n<=l.length->(List.range n).filterMap (λi=>l[i]?)=l.take n:=by
  intro n
  induction n with
  | zero=>intro _;rfl
  | succ n a=>
    intro b;rw[List.range_succ,List.filterMap_append,a LZ,acq];congr 1
 rw[gen _ (aav _),acg]
def Run.other{l:List Tc}(h:Run S l S'){o:List Nat}(O:yF l o):∃T i,Run S (pick l o) T/\Run T (pick l (qM l o)) i/\Ia S' i:=by
 induction O with
 | nil=>exact⟨S,S',Z,by rw[Uw];exact h,Ia.refl _⟩
 | @snoc o a x O e n q s=>
   obtain⟨T,S1,r,f,al⟩:=s;have u:a<l.length:=(aam.mp e).1;obtain⟨pre,post,y,w,v⟩:=Ed u n;rw[y,jP,jz e] at f
   have np:∀p∈pick l pre,¬stepT p x:=λp g j=>by unfold pick at g;obtain⟨m,t,em⟩:=List.mem_filterMap.mp g;obtain⟨lm,nm⟩:=v m t;exact nm (q m p lm em j)
   obtain⟨S2,k,d⟩:=Run.front np f;obtain⟨c,b⟩:=k;refine⟨cG T x.k,S2,?_,by rw[w,jP];exact b,al.trans d⟩;rw[jP,jz e];exact Run.app.mpr ⟨T,r,c,Z⟩
def Run.next{l:List Tc}{T:dD}(h:Run S l S'){o:List Nat}{a:Nat}{x:Tc}(O:yF l (o++[a]))(e:l[a]?=some x)(r:Run S (pick l o) T):Qm T x:=by obtain⟨U,_,b,_,_⟩:=h.other O;rw[jP,jz e] at b;obtain⟨f,d,c,_⟩:=Run.app.mp b;rw[r.det d];exact c
def Run.end{l:List Tc}{T:dD}(h:Run S l S'){o:List Nat}(O:yF l o)(all:∀i,i<l.length->i∈o)(r:Run S (pick l o) T):Ia S' T:=by
 obtain⟨U,d,b,a,al⟩:=h.other O
 have:qM l o=[]:=List.filter_eq_nil_iff.mpr λi c=>by have:=all i (acS.mp c);simpa using this
 rw[this] at a;have a:d=U:=a;rw[r.det b,←a];exact al
end Prf
variable{l:List Prf.Tc}
namespace L2
open PySem PySem.Spec PyProof.Rows PySem.W
section
variable{h:Heap}{ps:Array Value}
end
section
variable{params:Arguments}{body:Expr}{scope:Scope}{sp:List V->Hp->VK->Prop}
end
theorem lex_asymm:∀{a b:List Int},HT.lexLt a b=true->HT.lexLt b a=false
 | [],[],_=>rfl
 | [],_::_,_=>rfl
 | _::_,[],h=>by cases h
 | x::xs,y::ys,h=>by
   rw[HT.pL] at h ⊢
   by_cases e:x=y
   .subst e
    rw[adq rfl] at h ⊢;exact lex_asymm h
   .rw[adp e] at h
    rw[adp (Ne.symm e)];have:=aaQ h;exact aaP LZ
theorem O_:∀{a b c:List Int},HT.lexLt a b=true->HT.lexLt c b=false->HT.lexLt a c=true
 | [],[],_,h,_=>by cases h
 | [],_::_,[],_,h=>by cases h
 | [],_::_,_::_,_,_=>rfl
 | _::_,[],_,h,_=>by cases h
 | _::_,_::_,[],_,h=>by cases h
 | x::xs,y::ys,z::zs,h,g=>by
   rw[HT.pL] at h g ⊢
   by_cases e:x=y
   .subst e
    rw[adq rfl] at h
    by_cases d:z=x
    .subst d
     rw[adq rfl] at g ⊢;exact O_ h g
    .rw[adp d] at g
     rw[adp (Ne.symm d)];have:=of_decide_eq_false g;exact aaO LZ
   .rw[adp e] at h
    have f:=aaQ h
    by_cases d:z=y
    .subst d
     rw[adp e];exact h
    .rw[adp d] at g
     have:=of_decide_eq_false g;rw[adp LZ];exact aaO LZ
def fB(a:Nat->List Int)(n i:Nat):Prop:=∀j,j<n->HT.lexLt (a j) (a i)=false/\(j<i->HT.lexLt (a i) (a j)=true)
def lex_irrefl(a:List Int):HT.lexLt a a=false:=by
 cases h:HT.lexLt a a with
 | false=>rfl
 | true=>exact adt h (by rw[lex_asymm h];decide)
def fB.one:fB kf 1 0:=λj a=>by
 obtain rfl:j=0:=by lia
 exact⟨lex_irrefl _,λz=>adt z (adk _)⟩
def fB.more(h:fB kf n i)(hi:i<n)(b:HT.lexLt (kf n) (kf i)=true):fB kf (n+1) n:=λj d=>by
 by_cases e:j=n
 .subst e
  exact⟨lex_irrefl _,λz=>adt z (adk _)⟩
 .have c:=(h j LZ).1
  have a:=O_ b c;exact⟨lex_asymm a,λ_=>a⟩
def fB.less(h:fB kf n i)(hi:i<n)(b:HT.lexLt (kf n) (kf i)=false):fB kf (n+1) i:=λj a=>by
 by_cases e:j=n
 .subst e
  exact⟨b,λz=>LZ⟩
 .exact h j LZ
section
variable{q l I S:Addr}
def ints_of{H1:Hp}{t:Addr}(J:Inv X pins σ H1 s)(h:H1 t=some (.tup (ns.map V.int))):∃its:List Value,IsTup s.heap t its.toArray/\IntsAre its.toArray.toList ns:=by obtain⟨its,r,p,_⟩:=J.tuple (cC.of h);exact⟨its,p,intsAre_of r⟩
end
section
variable{a:Expr}{ta:TA}{p kp am4:Pos}{params:Arguments}{body:Expr}{scope:Scope}{sp:List V->Hp->VK->Prop}
end
section
variable{mg:zzv}
end
end L2
namespace L2
open PySem PySem.Spec PyProof.Rows
end L2
namespace L2
open PySem PyProof.Rows
theorem Ih:∀{ps:List Str}{us:zzt},us.length=ps.length->ps.Nodup->(ps.filter λn=>((ps.zip us).lookup n).isNone)=[]/\(ps.filterMap λn=>((ps.zip us).lookup n).map (n,·))=ps.zip us
 | [],[],_,_=>⟨Z,Z⟩
 | p::ps,u::us,c,d=>by
   rw[List.nodup_cons] at d;obtain⟨h1,h⟩:=Ih (ps:=ps) (us:=us) (by simpa using c) d.2
   have e:∀n∈ps,((p::ps).zip (u::us)).lookup n=(ps.zip us).lookup n:=λn f=>by rw[List.zip_cons_cons,List.lookup_cons];rw[show (n==p)=false from beq_eq_false_iff_ne.mpr λz=>d.1 (by rw[←z];exact f)]
   have g:((p::ps).zip (u::us)).lookup p=some u:=by rw[List.zip_cons_cons,List.lookup_cons];simp
   constructor
   .rw[acT,g,adp MZ]
    rw[←h1];exact List.filter_congr λn f=>by rw[e n f]
   .rw[List.filterMap_cons,g]
    refine congrArg ((p,u) :: ·) (Eq.trans ?_ h);clear h1 h g c;revert e;generalize ((p::ps).zip (u::us))=a;generalize ps.zip us=b;intro e
    induction ps with
    | nil=>rfl
    | cons q ps i=>
      rw[List.filterMap_cons,List.filterMap_cons,e q MZ,i ⟨λz=>d.1 (by simp[z]),(List.nodup_cons.mp d.2).2⟩ λn f=>e n (by simp[f])]
 | [],_::_,c,_=>by simp at c
 | _::_,[],c,_=>by simp at c
def nG(a:Arguments)(ps:List Str):Bool:=a.posonlyargs.isEmpty&&decide (a.args.map (·.arg)=ps)&&a.vararg.isNone&&a.kwonlyargs.isEmpty&&a.kwarg.isNone&&decide ps.Nodup
def Cr(h:nG fd.params ps=true)(e:fd.defaults=.none)(a:us.length=ps.length):bindArgs fd ⟨us,[]⟩=pure (ps.zip us):=by unfold nG at h;simp only[abt,decide_eq_true_eq,List.isEmpty_iff,Option.isNone_iff_eq_none] at h;obtain⟨⟨⟨⟨⟨k,j⟩,i⟩,g⟩,f⟩,d⟩:=h;obtain⟨c,b⟩:=Ih a d;have l:seqItems? Value.none=pure none:=Z;unfold bindArgs;simp only[k,j,i,g,f,e,l,List.map_nil,List.nil_append,List.append_nil,pure_bind,Option.getD_none];rw[List.forIn_nil,pure_bind];dsimp only;rw[adp (by rw[a];simp)];simp only[List.length_nil,Nat.zero_sub,List.drop_nil,Nat.sub_zero,acg,c,List.isEmpty_nil,Bool.not_true,Bool.false_eq_true,if_false,List.zip_nil_right,List.forIn_nil,pure_bind,b,Array.toList_empty]
end L2
namespace L2
open PySem PySem.Spec PyProof.Rows PySem.W
def fU.uH(F:fU K x qual st f fd)(h:nG (d9 st) ps=true):Binds K fd ps []:=F.binds λ_ _ _ _ _ _ _ a=>Cr h rfl a
def fU.bind1{a:Str}(F:fU K x qual st f fd)(h:nG (d9 st) [a]=true)(s:Shared)(v:Value):BindsTo s fd ⟨[v],[]⟩ [(a,v)]:=by obtain⟨g,e,kV,doc,pm,an,d,j,b,rfl,i,c⟩:=F.ex;exact .of_eq (Cr (ps:=[a]) h rfl rfl)
def iC(K:zzy)(x:Str)(st:Stmt):Prop:=∃f fd,nsIn K mainGlobals x=some (some (.ref f))/\fU K x x st f fd
def gJ(K:zzy)(C:Addr)(m q:Str)(st:Stmt):Prop:=∃f fd,(findIn K (.ref C) m=some (some (.ref f))/\isFn K (.ref f)=true)/\fU K m q st f fd
section
variable{m q:Str}{c:Addr}{kV:Value}
def Mi(a:nsIn K mainGlobals x=some (some (.ref f)))(l:K.lookup f=some ⟨oc,od,.func (W.fnOf x x (d9 st) (gG st) (aN st) .none kV doc pm an cdv ct),osl⟩)(c:W.codeIn K cdv x=true)(k:W.keepIn K (.ref f)=true):iC K x st:=⟨_,_,a,Wn l c k⟩
def RL(a:findIn K (.ref C) m=some (some (.ref f)))(l:K.lookup f=some ⟨oc,od,.func (W.fnOf m q (d9 st) (gG st) (aN st) .none kV doc pm an cdv ct),osl⟩)(c:W.codeIn K cdv q=true)(k:W.keepIn K (.ref f)=true)(n:isFn K (.ref f)=true):gJ K C m q st:=⟨_,_,⟨a,n⟩,Wn l c k⟩
end
def aad(K:zzy)(C:Addr):List Str->Prop
 | []=>True
 | a::l=>findIn K (.ref C) a=some none/\aad K C l
def Xe(K:zzy):List Str->Prop
 | []=>True
 | a::l=>nsIn K mainGlobals a=some none/\Xe K l
def afJ(mg:zzv):List Str->Prop
 | []=>True
 | a::l=>mg a=none/\afJ mg l
theorem Xe.mg{K:zzy}{h:Heap}{mg:zzv}(X:K.In h)(G:h.Ns mainGlobals mg):∀{l:List Str},Xe K l->afJ mg l
 | [],_=>trivial
 | _::_,z=>⟨mg_none_of X G z.1,Xe.mg X G z.2⟩
structure Nb(K:zzy)(x:Str)(C:Addr):Prop where
 a:nsIn K mainGlobals x=some (some (.ref C))
 pg:plainGet K C Str.empty=true
 hd:hasDictIn K C=true
 po:plainOver K C=true
 sa:findIn K (.ref C) "__setattr__" = some (some (.builtin "object.__setattr__"))
 ms:makesIn K C=true
 kp:keepIn K (.ref C)=true
def Nb.cls(I:Nb K x C):Cls K C:=⟨I.pg,I.hd,I.po,I.sa⟩
structure XC(K:zzy)(x:Str)(C:Addr):Prop where
 a:nsIn K mainGlobals x=some (some (.ref C))
 cl:(clsIn K C).isSome=true
 ty:typeIn K (.ref C)=some (.type "type")
 bs:subIn K (.ref C) (.type "BaseException")=some true
structure XrI(K:zzy)(C:Addr):Prop where
 ga:findIn K (.ref C) "__getattribute__" = some (some (.builtin "BaseException.__getattribute__"))
 gk:findIn K (.ref C) "__getattr__" = some none
 mB:mroIn K C (.type "BaseException")=some true
 ca:findIn K (.ref C) "__class__" = some (some (.builtin "object.__class__"))
 mo:mroIn K C (.type "object")=some true
 ve:subIn K (.ref C) (.type "ValueError")=some true
 ex:excIn K C [.type "ValueError",.type "Exception",.type "BaseException",.type "object"] "ValueError.__new__" = true
structure XcI(K:zzy):Prop where
 cg:specialIn K (.builtin "object.__class__") "__get__" = some (some (.builtin "getset_descriptor.__get__"))
 ct:takesIn K (.builtin "object.__class__")=some true
structure At8(P:Program)(w:World)(K:zzy)(mg:zzv)(base:Heap):Prop where
 h:∃h,K.In h/\h.Ns mainGlobals mg
section
variable{mg:zzv}{m q:Str}{h:Heap}{b:Bool}
def XC.o{R:Addr}(I:XC K x C)(X:K.In h)(G:h.Ns mainGlobals mg)(Q:yx K R C b):Xo K mg R C x b:=⟨mg_of X G I.a,⟨I.cl,I.ty,I.bs⟩,Q⟩
def XC.r(I:XC K x C)(X:K.In h)(G:h.Ns mainGlobals mg)(R:XrI K C)(c:XcI K):Xr K mg C x:=⟨mg_of X G I.a,⟨I.cl,I.ty,I.bs⟩,⟨R.ga,R.gk,R.mB,I.cl,R.ca,c.cg,c.ct,R.mo⟩,R.ex,R.ve⟩
variable(Y:At8 P w K mg base)
include Y
theorem At8.fn(D:iC K x st)(ok:∀{f:Addr}{fd:zzs},fU K x x st f fd->bN P w K mg base ig k f fd ps sp)(b:nG (d9 st) ps=true:=by kernel_rfl):FnAt P w K mg base k x ps sp:=by obtain⟨h,X,G⟩:=Y.h;obtain⟨f,fd,a,F⟩:=D;exact⟨f,fd,ok F,mg_of X G a,F.kp,F.uH b⟩
theorem At8.fnX(D:iC K x st)(ok:∀{f:Addr}{fd:zzs},fU K x x st f fd->bN P w K mg base (tM P w) k f fd ps sp)(b:nG (d9 st) ps=true:=by kernel_rfl):Xi P w K mg base k x ps sp:=by obtain⟨h,X,G⟩:=Y.h;obtain⟨f,fd,a,F⟩:=D;exact⟨f,fd,ok F,mg_of X G a,F.kp,F.uH b⟩
theorem At8.me(D:gJ K C m q st)(ok:∀{f:Addr}{fd:zzs},fU K m q st f fd->bN P w K mg base ig k f fd ps sp)(b:nG (d9 st) ps=true:=by kernel_rfl):MethAt P w K mg base k C m ps sp:=by obtain⟨f,fd,⟨a,n⟩,F⟩:=D;exact⟨f,fd,ok F,⟨a,n,F.kp⟩,F.uH b⟩
theorem At8.meX(D:gJ K C m q st)(ok:∀{f:Addr}{fd:zzs},fU K m q st f fd->bN P w K mg base (tM P w) k f fd ps sp)(b:nG (d9 st) ps=true:=by kernel_rfl):jM P w K mg base k C m ps sp:=by obtain⟨f,fd,⟨a,n⟩,F⟩:=D;exact⟨f,fd,ok F,⟨a,n,F.kp⟩,F.uH b⟩
theorem At8.ma(I:Nb K x C)(D:gJ K C "__init__" q st)(ok:∀{f:Addr}{fd:zzs},fU K "__init__" q st f fd->bN P w K mg base ig k f fd ps sp)(b:nG (d9 st) ps=true:=by kernel_rfl):rJ P w K mg base k C x ps [] sp:=by obtain⟨h,X,G⟩:=Y.h;obtain⟨f,fd,⟨a,n⟩,F⟩:=D;exact⟨f,fd,[],ok F,⟨I.ms,a,n,I.kp⟩,mg_of X G I.a,F.uH b,.nil⟩
theorem At8.maX(I:Nb K x C)(D:gJ K C "__init__" q st)(ok:∀{f:Addr}{fd:zzs},fU K "__init__" q st f fd->bN P w K mg base (tM P w) k f fd ps sp)(b:nG (d9 st) ps=true:=by kernel_rfl):v7 P w K mg base k C x ps [] sp:=by obtain⟨h,X,G⟩:=Y.h;obtain⟨f,fd,⟨a,n⟩,F⟩:=D;exact⟨f,fd,[],ok F,⟨I.ms,a,n,I.kp⟩,mg_of X G I.a,F.uH b,.nil⟩
end
end L2
namespace L2
open PySem PySem.Spec PyProof.Rows
def yH:isSubtype (.type "range_iterator") (.type "reversed")=pure false:=by rw[isSubtype_type];kernel_rfl
def Og(j:Int):Obj:={cls:= .type "range_iterator",data:= .fields #[rawInt (0+(Builtin.Range.rangeSize 0 j 1-1)*1),rawInt (Builtin.Range.rangeSize 0 j 1),rawInt (-1)]}
section
variable{prog:Program}
def kZ{z:Int}(b: -(2 ^ 63)<=z)(a:z<2 ^ 63):Builtin.Range.rangeFitsLong z=true:=by unfold Builtin.Range.rangeFitsLong;rw[aaO b,aaO a];rfl
def vV{r:Addr}{j:Int}{t u v:Tok}(b:IsRange s.heap r 0 j 1 t u v)(f: -(2 ^ 61)<=j)(e:j<2 ^ 61)(h:Q (.ref s.heap.objs.size) {s with heap:=s.heap.push (Og j)}):wpAny (model prog w) A (call (.builtin "range.__reversed__") [.ref r]) Q E s:=by
 have d:s.TypeIs (.ref r) "range" :=⟨_,b,Z⟩;refine wpAny_call_entry F.slot_range_reversed d F.entry_range_reversed ?_ (F.args_range_reversed_1 _);unfold Builtin.«range.__reversed__»;refine aaB (wpAny_of_eq (a:=Value.ref r) rfl ?_);refine aaB ?_;unfold Builtin.Range.rangeFields;refine aaB (wpAny_field b rfl (x:= .int 0 t) rfl ?_);refine aaB (wpAny_of_eq (a:=some (0:Int)) rfl ?_);refine aaB (wpAny_field b rfl (x:= .int j u) rfl ?_);refine aaB (wpAny_of_eq (a:=some j) rfl ?_);refine aaB (wpAny_field b rfl (x:= .int 1 v) rfl ?_);refine aaB (wpAny_of_eq (a:=some (1:Int)) rfl ?_);refine wpAny_of_eq (a:=((0:Int),j,(1:Int))) rfl ?_
 have c:(Builtin.Range.rangeFitsLong 0&&Builtin.Range.rangeFitsLong j&&Builtin.Range.rangeFitsLong 1&&Builtin.Range.rangeFitsLong (-1)&&Builtin.Range.rangeFitsLong (0-1)&&Builtin.Range.rangeFitsLong (Builtin.Range.rangeSize 0 j 1))=true:=by rw[kZ DZ DZ,kZ (z:=j) LZ LZ,kZ (z:=1) DZ DZ,kZ (z:= -1) DZ DZ,kZ (z:=0-1) DZ DZ,kZ (z:=Builtin.Range.rangeSize 0 j 1) (by rw[rangeSize_one];split<;>lia) (by rw[rangeSize_one];split<;>lia)];rfl
 dsimp only;rw[c];simp only[Bool.not_true,Bool.false_eq_true,if_false,if_true]
 first
 | exact aaB (wpAny_newObj_type (aaD ⟨_,Z,h⟩))
 | refine aaB (wpAny_of_eq (a:=()) rfl ?_)
   exact aaB (wpAny_newObj_type (aaD ⟨_,Z,h⟩))
theorem vR{r:Addr}{j:Int}{t u v:Tok}{Q₁:zzx}(b:IsRange s.heap r 0 j 1 t u v)(e: -(2 ^ 61)<=j)(d:j<2 ^ 61)(h:Q₁ (.ref s.heap.objs.size) {s with heap:=s.heap.push (Og j)}):
 codeAny (model prog w) A (.call (.builtin "reversed.__new__") ⟨[.type "reversed",.ref r],[]⟩) (wants Q₁ E) s:=by
 have c:s.TypeIs (.ref r) "range" :=⟨_,b,Z⟩;refine codeAny_of_tree ?_;show wpAny _ A.in1 (do checkBuiltinCall "reversed.__new__" ⟨[.type "reversed",.ref r],[]⟩;again (.builtin "reversed.__new__" ⟨[.type "reversed",.ref r],[]⟩)) _ _ s;refine aaB (wpAny_of_eq (F.newCall_reversed_1 _) (aaD ⟨plainId_quiet F.plain_reversed_new _,codeAny_builtin F.entry_reversed_new ?_⟩));rw[Around.under_plainId F.plain_reversed_new _];unfold Builtin.«reversed.__new__»;refine aaB (wpAny_of_eq (newClass_reversed _) ?_)
 try dsimp only
 refine aaB (wpAny_of_eq (a:=()) (by first |rfl|kernel_rfl) ?_);refine aaB (wpAny_of_eq (a:=()) (by first |rfl|kernel_rfl) ?_)
 try dsimp only
 refine aaB (wpAny_specialOf c F.slot_range_reversed.lookup ?_)
 try dsimp only
 refine aaB (wpAny_of_eq (F.slot_range_reversed.bind _) ?_)
 try dsimp only
 first
 | rw[adp (show ¬((Value.builtin "range.__reversed__" == Value.none)=true) from aaT)]
 | (show wpAny _ _ (if (Value.builtin "range.__reversed__" == Value.none)=true then _ else _) _ _ _;rw[adp (show ¬((Value.builtin "range.__reversed__" == Value.none)=true) from aaT)])
 refine aaB (wpAny_rule ?_);refine aaB (m:=runValue (.call (.builtin "range.__reversed__") ⟨[.ref r],[]⟩)) (show wpAny _ _ (call (.builtin "range.__reversed__") [.ref r]) _ _ _ from vV b e d ?_)
 first
 | exact aaD h
 | exact aaB (aaD (aaD h))
def vW{r:Addr}{j:Int}{t u v:Tok}(b:IsRange s.heap r 0 j 1 t u v)(d: -(2 ^ 61)<=j)(c:j<2 ^ 61)(h:Q (.ref s.heap.objs.size) {s with heap:=s.heap.push (Og j)}):wpAny (model prog w) A (call (.type "reversed") [.ref r]) Q E s:=by refine callType_other (U:= "range_iterator") (Q₁:=λobj a=>obj=.ref s.heap.objs.size/\a={s with heap:=s.heap.push (Og j)}) (by decide +kernel) F.create_reversed ⟨_,_,F.mro_reversed⟩ F.made_reversed yH (F.typeCall_reversed_1 _) (vR b d c ⟨Z,Z⟩) ?_;rintro obj a ⟨rfl,rfl⟩;exact⟨⟨_,aar _ rfl,Z⟩,h⟩
end
def aeS(a:TA):TI:=λσ H R=>a σ H λvs H1=>∃j:Int,vs=[.int j]/\(0<=j/\j<2 ^ 61)/\R (Xg (j-1) j.toNat) H1
theorem YK{a:Expr}{r:TA}{p c:Pos}(A:Gl X "reversed")(z:X.mg "reversed" = none)(l:Gl X "range")(i:X.mg "range" = none)(C:PA X [a] r)(hs:starEach [a] X.env=[(false,eval a X.env)]:=by rfl)(u:starEach [.Call (.Name "range" p2) [a] [] c] X.env=[(false,eval (.Call (.Name "range" p2) [a] [] c) X.env)]:=by rfl):
 PI X tg (.Call (.Name "reversed" p) [.Call (.Name "range" p2) [a] [] c] [] pos) (aeS r):=by
 intro f s n H R I h;refine Call_ (pO I A z J_ (PyProof.Rows.callWith_type1 ?_ u rfl));rw[u];show wpAny _ _ (spliced ((false,eval (.Call (.Name "range" p2) [a] [] c) X.env)::backTo pos (starEach [] X.env))) _ _ s;refine Calls.spliced_cons (Call_ (pO I l i boot_range (PyProof.Rows.callWith_type1 (dM (C c f s n H _ I h) λJ g ⟨G,H1,F,y,q1⟩=>?_) hs rfl)));obtain⟨j,e,⟨q1,q2⟩,q⟩:=q1;subst e;obtain⟨v,rfl,w⟩:=vals1 y;obtain⟨t,rfl⟩:=w;refine call_range_1 ?_;refine Calls.spliced_nil ?_;refine vW (IsRange.new ..) LZ q2 ?_;generalize k:g.heap.push {cls:= .type "range",data:= .fields #[.int 0 g.toks,.int j t,.int 1 (g.toks+1)]}=d;have m:Inv X f n H1 {g with heap:=d,toks:=g.toks+1+1}:=by subst k;exact F.kept λb o e=>aaq _ e
 refine wpAny_pyIter_rangeiter (it:=d.objs.size) (x:=0+(Builtin.Range.rangeSize 0 j 1-1)*1) (left:=Builtin.Range.rangeSize 0 j 1) (step:= -1) (aar _ rfl) ?_;refine⟨d.objs.size,[d.objs.size],_,_,H1,Z,m.kept (t':=g.toks+1+1) λb o e=>aaq _ e,Io _ (j-1) j.toNat,?_,λb B=>?_,q⟩
 .show IsRangeIter _ _ (j-1+((0:Nat):Int)*(-1)) (((j.toNat:Nat):Int)-((0:Nat):Int)) (-1)
  have E:j-1+((0:Nat):Int)*(-1)=0+(Builtin.Range.rangeSize 0 j 1-1)*1:=by rw[rangeSize_one];split<;>lia
  have D:((j.toNat:Nat):Int)-((0:Nat):Int)=Builtin.Range.rangeSize 0 j 1:=by rw[rangeSize_one];split<;>lia
  rw[E,D];exact aar _ rfl
 .have e:b=d.objs.size:=by simpa using B
  subst e;exact m.vN (aav _) (m.hok.fresh (aav _))
end L2
namespace Prf
open PySem L2
inductive Ah(r:Nat->Nat->Prop):Nat->Nat->Prop
 | one {i j:Nat} (h:r i j):Ah r i j
 | more {i y j:Nat} (h:r i y) (q:Ah r y j):Ah r i j
theorem Ah.trans{r:Nat->Nat->Prop}:∀{i y j:Nat},Ah r i y->Ah r y j->Ah r i j
 | _,_,_,.one h,q=> .more h q
 | _,_,_,.more h p,q=> .more h (p.trans q)
theorem Ah.lt{r:Nat->Nat->Prop}(a:∀i j,r i j->i<j):∀{i j:Nat},Ah r i j->i<j
 | _,_,.one h=>a _ _ h
 | _,_,.more h q=>Nat.lt_trans (a _ _ h) (q.lt a)
theorem Ah.last{r:Nat->Nat->Prop}:∀{i j:Nat},Ah r i j->r i j \/ ∃y,Ah r i y/\r y j
 | _,_,.one h=> .inl h
 | _,_,.more h q=> .inr (match q.last with
   | .inl g=>⟨_,.one h,g⟩
   | .inr ⟨y,a,b⟩=>⟨y,.more h a,b⟩)
def Ah.first{r:Nat->Nat->Prop}:∀{i j:Nat},Ah r i j->r i j \/ ∃y,r i y/\Ah r y j
 | _,_,.one h=> .inl h
 | _,_,.more h q=> .inr ⟨_,h,q⟩
theorem Ah.down{r:Nat->Nat->Prop}{D:Nat->Prop}(cl:∀a b,r a b->D b->D a):∀{i j:Nat},Ah r i j->D j->D i
 | _,_,.one h,d=>cl _ _ h d
 | _,_,.more h q,d=>cl _ _ h (q.down cl d)
def told(own meet:Nat->Nat->Prop)(few:Prop)(i j:Nat):Prop:=i<j/\meet i j /\ ¬(few /\ ∃x,i<x/\x<j/\Ah (λa b=>a<b/\(own a b\/meet a b)) x j/\Ah (λa b=>a<b/\(own a b\/meet a b)) i x)
theorem mz{own meet:Nat->Nat->Prop}{few:Prop}{D:Nat->Prop}(cl:∀a b,a<b->own a b\/meet a b->D b->D a){j:Nat}(e:∀i,i<j->own i j->D i)(k:∀i,told own meet few i j->D i):
 ∀n i,i<j->j-i<=n->meet i j->D i
 | 0,i,l,m,_=>by lia
 | n+1,i,l,m,h=>by
   have r:∀a b,(a<b/\(own a b\/meet a b))->a<b:=λ_ _ z=>z.1;have c:∀a b,(a<b/\(own a b\/meet a b))->D b->D a:=λa b z=>cl a b z.1 z.2;refine Classical.byContradiction λd=>?_;have nt:¬told own meet few i j:=λz=>d (k i z);have:few /\ ∃x,i<x/\x<j/\Ah (λa b=>a<b/\(own a b\/meet a b)) x j/\Ah (λa b=>a<b/\(own a b\/meet a b)) i x:=Classical.byContradiction λz=>nt ⟨l,h,z⟩;obtain⟨_,x,u,o,s,f⟩:=this;rcases(f.trans s).last with q|⟨y,p,q⟩
   .rcases s.last with g|⟨z,g1,g2⟩
    .rcases g.2 with g|g
     .exact d (f.down c (e x o g))
     .exact d (f.down c (mz cl e k n x o LZ g))
    .have t:=g1.lt r
     rcases g2.2 with g|g
     .exact d ((f.trans g1).down c (e z g2.1 g))
     .exact d ((f.trans g1).down c (mz cl e k n z g2.1 LZ g))
   .have:=p.lt r
    rcases q.2 with g|g
    .exact d (p.down c (e y q.1 g))
    .exact d (p.down c (mz cl e k n y q.1 LZ g))
def Uu{r:Nat->Nat->Prop}(a:∀i j,r i j->i<j)(l:i<j):Ah r i j↔r i j \/ ∃y,i<y/\y<j/\Ah r i y/\Ah r y j:=by
 constructor
 .intro h
  rcases h.first with q|⟨y,p,q⟩
  .exact .inl q
  .exact .inr ⟨y,a _ _ p,q.lt a,.one p,q⟩
 .rintro(h|⟨y,_,_,p,q⟩)
  .exact .one h
  .exact p.trans q
end Prf
namespace Tip
open PySem PyProof.Rows
def mU:Bool->Keyed->Array Keyed->Nat->Nat->Nat->StateT SortSt Sem (Option Nat):=sortPriv% PySem.Builtin.gallop
def sY(left:Bool)(key:Keyed)(a:Array Keyed)(base i:Nat):StateT SortSt Sem (Option Bool):=do
 let x ←elem' a (base+i)
 if left then lt' x key else return (←lt' key x).map (!·)
def glB(left:Bool)(key:Keyed)(a:Array Keyed)(base n lo hi:Nat):StateT SortSt Sem (Option Nat):=do
 let mut lo:=lo
 let mut hi:=hi
 for _ in [0:n] do
  if lo≥hi then break
  let m:=lo+(hi-lo) / 2
  let some more ←sY left key a base m|return none
  if more then lo:=m+1 else hi:=m
 return some hi
def Mf(left:Bool)(key:Keyed)(b:Array Keyed)(base n a:Nat):mU left key b base n a=(do
 let mut lastofs:=0
 let mut ofs:=1
 let some right ←sY left key b base a|return none
 if right then
  for _ in [0:n] do
   if ofs≥n-a then break
   let some more ←sY left key b base (a+ofs)|return none
   if !more then break
   lastofs:=ofs
   ofs:=2*ofs+1
  glB left key b base n (a+lastofs+1) (a+min ofs (n-a))
 else
  for _ in [0:n] do
   if ofs≥a+1 then break
   let some found ←sY left key b base (a-ofs)|return none
   if found then break
   lastofs:=ofs
   ofs:=2*ofs+1
  glB left key b base n (a+1-min ofs (a+1)) (a-lastofs)):=Z
section
variable{prog:Program}{κ:SortKind}{a₀:Array Keyed}
structure wg(prog:Program)(w:World)(A:Around)(s:Shared)(κ:SortKind)(a₀:Array Keyed):Prop where
 ask:∀p∈a₀.toList,∀q∈a₀.toList,∀(E:zzx)(Q:Bool->Shared->Prop),(∀b,Q b s)->wpAny (model prog w) A (keyLt' κ p.1 q.1) Q E s
def cB{st:SortSt}{a:Array Keyed}{Q:Keyed->SortSt->Prop}(hi:i<a.size)(h:Q a[i] st):wpS (model prog w) A E s (elem' a i) Q st:=by rw[elem'_eq,getElem?_pos a i hi];exact aaF h
def bB{α:Type}{c:Prop}[Decidable c]{x y:StateT SortSt Sem α}{Q:α->SortSt->Prop}{st:SortSt}(d:c->wpS (model prog w) A E s x Q st)(b:¬c->wpS (model prog w) A E s y Q st):wpS (model prog w) A E s (if c then x else y) Q st:=by
 by_cases a:c
 .rw[adq a];exact d a
 .rw[adp a];exact b a
def Of(a₀ a:Array Keyed):Prop:=∀p∈a.toList,p∈a₀.toList
def Of.get{a:Array Keyed}(h:Of a₀ a)(hi:i<a.size):a[i]∈a₀.toList:=h _ MZ
structure tE(st st':SortSt):Prop where
 k:kindOf st'=kindOf st
 a:arrOf st'=arrOf st
 p:pendingOf st'=pendingOf st
 f:failedOf st'=failedOf st
def tE.refl(st:SortSt):tE st st:=⟨Z,Z,Z,Z⟩
theorem tE.trans{a b c:SortSt}(h:tE a b)(g:tE b c):tE a c:=⟨g.k.trans h.k,g.a.trans h.a,g.p.trans h.p,g.f.trans h.f⟩
def gC:Nat->StateT SortSt Sem Unit:=sortPriv% PySem.Builtin.setMinGallop
def wQ(g:Nat):gC g=modify λs=>SortSt.mk' (kindOf s) (arrOf s) (pendingOf s) g (failedOf s):=Z
def rN{st:SortSt}{g:Nat}{Q:Unit->SortSt->Prop}(h:∀a,tE st a->Q () a):wpS (model prog w) A E s (gC g) Q st:=by rw[wQ];exact wpS_modify (h _ ⟨Z,Z,Z,Z⟩)
def cY(a:Array Keyed)(i j:Nat):(a.extract i j).toList=(a.toList.drop i).take (j-i):=by rw[Array.toList_extract,List.extract_eq_take_drop]
theorem uF(l:List Keyed)(i k:Nat):l.drop i=(l.drop i).take k++l.drop (i+k):=by rw[←List.drop_drop,List.take_append_drop]
end
def Bv:Array Keyed->Array Keyed->StateT SortSt Sem (Array Keyed):=sortPriv% PySem.Builtin.mergeLo
def Bw:Array Keyed->Array Keyed->StateT SortSt Sem (Array Keyed):=sortPriv% PySem.Builtin.mergeHi
abbrev iK(a b out:Array Keyed)(ia ib:Nat):Array Keyed:=out++a.extract ia a.size++b.extract ib b.size
abbrev uq(a b out:Array Keyed)(ia ib:Nat):Array Keyed:=out++b.extract ib b.size++a.extract ia a.size
abbrev S1:=Option (Array Keyed)×Array Keyed×Nat×Nat×Nat×Nat
abbrev S2:=Option (Array Keyed)×Array Keyed×Nat×Nat×Nat×Nat×Nat
def loC(a b:Array Keyed)(ia mg ac c:Nat)(out:Array Keyed)(ib:Nat):StateT SortSt Sem (ForInStep S2):=do
 let out:=out.push (←elem' a ia)
 if ia+1+1==a.size then return .done (some (uq a b out (ia+1) ib),out,ia+1,ib,mg,ac,c)
 if ac<7&&c<7 then return .done (none,out,ia+1,ib,mg,ac,c)
 return .yield (none,out,ia+1,ib,mg,ac,c)
def loB(a b:Array Keyed)(ib mg ac c:Nat)(out:Array Keyed)(ia:Nat):StateT SortSt Sem (ForInStep S2):=do
 let out:=out.push (←elem' b ib)
 if ib+1==b.size then return .done (some (iK a b out ia (ib+1)),out,ia,ib+1,mg,ac,c)
 let some k ←mU true (←elem' a ia) b (ib+1) (b.size-(ib+1)) 0|return .done (some (iK a b out ia (ib+1)),out,ia,ib+1,mg,ac,c)
 if k>0 then
  if ib+1+k==b.size then return .done (some (iK a b (out++b.extract (ib+1) (ib+1+k)) ia (ib+1+k)),out++b.extract (ib+1) (ib+1+k),ia,ib+1+k,mg,ac,k)
  else loC a b ia mg ac k (out++b.extract (ib+1) (ib+1+k)) (ib+1+k)
 else loC a b ia mg ac k out (ib+1)
def loA(a b out:Array Keyed)(ia ib ac c mg:Nat):StateT SortSt Sem (ForInStep S2):=do
 gC mg
 let some k ←mU false (←elem' b ib) a ia (a.size-ia) 0|return .done (some (iK a b out ia ib),out,ia,ib,mg,ac,c)
 if k>0 then
  if ia+k+1==a.size then return .done (some (uq a b (out++a.extract ia (ia+k)) (ia+k) ib),out++a.extract ia (ia+k),ia+k,ib,mg,k,c)
  else if ia+k==a.size then return .done (some (iK a b (out++a.extract ia (ia+k)) (ia+k) ib),out++a.extract ia (ia+k),ia+k,ib,mg,k,c)
  else loB a b ib mg k c (out++a.extract ia (ia+k)) (ia+k)
 else loB a b ib mg k c out ia
def lo1(a b:Array Keyed)(mg:Nat)(c:S1):StateT SortSt Sem (ForInStep S1):=
 let d:=c.2.1;let ia:=c.2.2.1;let ib:=c.2.2.2.1;let ac:=c.2.2.2.2.1;let bc:=c.2.2.2.2.2
 do
 let some e ←lt' (←elem' b ib) (←elem' a ia)|return .done (some (iK a b d ia ib),d,ia,ib,ac,bc)
 if e then
  let d:=d.push (←elem' b ib)
  if ib+1==b.size then return .done (some (iK a b d ia (ib+1)),d,ia,ib+1,0,bc+1)
  if bc+1≥mg then return .done (none,d,ia,ib+1,0,bc+1)
  return .yield (none,d,ia,ib+1,0,bc+1)
 else
  let d:=d.push (←elem' a ia)
  if ia+1+1==a.size then return .done (some (uq a b d (ia+1) ib),d,ia+1,ib,ac+1,0)
  if ac+1≥mg then return .done (none,d,ia+1,ib,ac+1,0)
  return .yield (none,d,ia+1,ib,ac+1,0)
abbrev S0:=Option (Array Keyed)×Array Keyed×Nat×Nat×Nat
def loO(a b:Array Keyed)(c:S0):StateT SortSt Sem (ForInStep S0):=do
 let s ←forIn [0:a.size+b.size] ((none,c.2.1,c.2.2.1,c.2.2.2.1,0,0):S1) λ_ s=>lo1 a b c.2.2.2.2 s
 match s.1 with
 | some r=>pure (.done (some r,s.2.1,s.2.2.1,s.2.2.2.1,c.2.2.2.2))
 | none=>do
   rule "list.sort.gallop"
   let s ←forIn [0:a.size+b.size] ((none,s.2.1,s.2.2.1,s.2.2.2.1,c.2.2.2.2+1,s.2.2.2.2.1,s.2.2.2.2.2):S2) λ_ c=>
    if c.2.2.2.2.1>1 then loA a b c.2.1 c.2.2.1 c.2.2.2.1 c.2.2.2.2.2.1 c.2.2.2.2.2.2 (c.2.2.2.2.1-1) else loA a b c.2.1 c.2.2.1 c.2.2.2.1 c.2.2.2.2.2.1 c.2.2.2.2.2.2 c.2.2.2.2.1
   match s.1 with
   | some r=>pure (.done (some r,s.2.1,s.2.2.1,s.2.2.2.1,s.2.2.2.2.1))
   | none=>do
     gC (s.2.2.2.2.1+1)
     pure (.yield (none,s.2.1,s.2.2.1,s.2.2.2.1,s.2.2.2.2.1+1))
def Jq(a b:Array Keyed):Bv a b=(do
 rule "list.sort.merge-lo"
 let out:Array Keyed:= #[←elem' b 0]
 if 1==b.size then return iK a b out 0 1
 if 0+1==a.size then return uq a b out 0 1
 let s ←forIn [0:a.size+b.size] ((none,out,0,1,gallopOf (←get)):S0) λ_ c=>loO a b c
 match s.1 with
 | some r=>pure r
 | none=>unsupported "internal:list.sort.merge-bound"):=by kernel_rfl
section
variable{a b out:Array Keyed}
def Pm(a b out:Array Keyed)(ia ib:Nat):Prop:=(out.toList++(a.toList.drop ia++b.toList.drop ib)).Perm (a.toList++b.toList)
def Mg(a b r:Array Keyed):Prop:=r.toList.Perm (a.toList++b.toList)
def Pm.swap(m:Pm a b out ia ib):Pm b a out ib ia:=(List.Perm.append_left _ List.perm_append_comm).trans (List.Perm.trans m List.perm_append_comm)
def Pm.rC(m:Pm a b out ia ib):Pm a b (out++b.extract ib (ib+k)) ia (ib+k):=by unfold Pm;rw[Array.toList_append,cY,show ib+k-ib=k by lia,List.append_assoc];refine List.Perm.trans (List.Perm.append_left _ ?_) m;refine List.Perm.trans ?_ (List.Perm.of_eq (congrArg (a.toList.drop ia ++ ·) (uF b.toList ib k).symm));rw[←List.append_assoc];exact List.Perm.trans (List.Perm.append_right _ List.perm_append_comm) (List.Perm.of_eq (List.append_assoc _ _ _))
def U4(h:ib<b.size):out.push b[ib]=out++b.extract ib (ib+1):=by apply Array.toList_inj.mp;rw[Array.toList_push,Array.toList_append,cY];congr 1;rw[show ib+1-ib=1 by lia,List.drop_eq_getElem_cons (by rw[aaG];exact h)];rfl
def Pm.done(m:Pm a b out ia ib):Mg a b (iK a b out ia ib):=by unfold Mg iK;rw[Array.toList_append,Array.toList_append,cY,cY,List.append_assoc,List.take_of_length_le (by rw[List.length_drop,aaG];exact aav _),List.take_of_length_le (by rw[List.length_drop,aaG];exact aav _)];exact m
theorem Pm.size(m:Pm a b out ia ib)(h:ia<a.size):out.size<a.size+b.size:=by have:=List.Perm.length_eq m;simp only[aa1,List.length_drop,aaG] at this;lia
end
section
variable{prog:Program}{κ:SortKind}{a₀ a b out:Array Keyed}{mg:Nat}{st st0:SortSt}
end
abbrev jc(a b out:Array Keyed)(na c:Nat):Array Keyed:=a.extract 0 na++b.extract 0 c++out.reverse
abbrev sW(a b out:Array Keyed)(na c:Nat):Array Keyed:=b.extract 0 c++a.extract 0 na++out.reverse
abbrev H1:=Option (Array Keyed)×Nat×Nat×Array Keyed×Nat×Nat
abbrev H2:=Option (Array Keyed)×Nat×Nat×Array Keyed×Nat×Nat×Nat
abbrev H0:=Option (Array Keyed)×Nat×Nat×Array Keyed×Nat
def hiC(a b:Array Keyed)(na mg ac d:Nat)(out:Array Keyed)(c:Nat):StateT SortSt Sem (ForInStep H2):=do
 let out:=out.push (←elem' a (na-1))
 if na-1==0 then return .done (some (jc a b out (na-1) c),na-1,c,out,mg,ac,d)
 if ac<7&&d<7 then return .done (none,na-1,c,out,mg,ac,d)
 return .yield (none,na-1,c,out,mg,ac,d)
def hiB(a b:Array Keyed)(c mg ac d:Nat)(out:Array Keyed)(na:Nat):StateT SortSt Sem (ForInStep H2):=do
 let out:=out.push (←elem' b (c-1))
 if c-1==1 then return .done (some (sW a b out na (c-1)),na,c-1,out,mg,ac,d)
 let some t ←mU true (←elem' a (na-1)) b 0 (c-1) (c-1-1)|return .done (some (jc a b out na (c-1)),na,c-1,out,mg,ac,d)
 if c-1-t>0 then
  if t==1 then return .done (some (sW a b (out++(b.extract t (c-1)).reverse) na t),na,t,out++(b.extract t (c-1)).reverse,mg,ac,c-1-t)
  else if t==0 then return .done (some (jc a b (out++(b.extract t (c-1)).reverse) na t),na,t,out++(b.extract t (c-1)).reverse,mg,ac,c-1-t)
  else hiC a b na mg ac (c-1-t) (out++(b.extract t (c-1)).reverse) t
 else hiC a b na mg ac (c-1-t) out (c-1)
def hiA(a b out:Array Keyed)(na c ac d mg:Nat):StateT SortSt Sem (ForInStep H2):=do
 gC mg
 let some t ←mU false (←elem' b (c-1)) a 0 na (na-1)|return .done (some (jc a b out na c),na,c,out,mg,ac,d)
 if na-t>0 then
  if t==0 then return .done (some (jc a b (out++(a.extract t na).reverse) t c),t,c,out++(a.extract t na).reverse,mg,na-t,d)
  else hiB a b c mg (na-t) d (out++(a.extract t na).reverse) t
 else hiB a b c mg (na-t) d out na
def hi1(a b:Array Keyed)(mg:Nat)(c:H1):StateT SortSt Sem (ForInStep H1):=
 let na:=c.2.1;let nb:=c.2.2.1;let d:=c.2.2.2.1;let ac:=c.2.2.2.2.1;let bc:=c.2.2.2.2.2
 do
 let some e ←lt' (←elem' b (nb-1)) (←elem' a (na-1))|return .done (some (jc a b d na nb),na,nb,d,ac,bc)
 if e then
  let d:=d.push (←elem' a (na-1))
  if na-1==0 then return .done (some (jc a b d (na-1) nb),na-1,nb,d,ac+1,0)
  if ac+1≥mg then return .done (none,na-1,nb,d,ac+1,0)
  return .yield (none,na-1,nb,d,ac+1,0)
 else
  let d:=d.push (←elem' b (nb-1))
  if nb-1==1 then return .done (some (sW a b d na (nb-1)),na,nb-1,d,0,bc+1)
  if bc+1≥mg then return .done (none,na,nb-1,d,0,bc+1)
  return .yield (none,na,nb-1,d,0,bc+1)
def hiO(a b:Array Keyed)(c:H0):StateT SortSt Sem (ForInStep H0):=do
 let s ←forIn [0:a.size+b.size] ((none,c.2.1,c.2.2.1,c.2.2.2.1,0,0):H1) λ_ s=>hi1 a b c.2.2.2.2 s
 match s.1 with
 | some r=>pure (.done (some r,s.2.1,s.2.2.1,s.2.2.2.1,c.2.2.2.2))
 | none=>do
   rule "list.sort.gallop"
   let s ←forIn [0:a.size+b.size] ((none,s.2.1,s.2.2.1,s.2.2.2.1,c.2.2.2.2+1,s.2.2.2.2.1,s.2.2.2.2.2):H2) λ_ c=>
    if c.2.2.2.2.1>1 then hiA a b c.2.2.2.1 c.2.1 c.2.2.1 c.2.2.2.2.2.1 c.2.2.2.2.2.2 (c.2.2.2.2.1-1) else hiA a b c.2.2.2.1 c.2.1 c.2.2.1 c.2.2.2.2.2.1 c.2.2.2.2.2.2 c.2.2.2.2.1
   match s.1 with
   | some r=>pure (.done (some r,s.2.1,s.2.2.1,s.2.2.2.1,s.2.2.2.2.1))
   | none=>do
     gC (s.2.2.2.2.1+1)
     pure (.yield (none,s.2.1,s.2.2.1,s.2.2.2.1,s.2.2.2.2.1+1))
def Jr(a b:Array Keyed):Bw a b=(do
 rule "list.sort.merge-hi"
 let out:Array Keyed:= #[←elem' a (a.size-1)]
 if a.size-1==0 then return jc a b out (a.size-1) b.size
 if b.size==1 then return sW a b out (a.size-1) b.size
 let s ←forIn [0:a.size+b.size] ((none,a.size-1,b.size,out,gallopOf (←get)):H0) λ_ c=>hiO a b c
 match s.1 with
 | some r=>pure r
 | none=>unsupported "internal:list.sort.merge-bound"):=by kernel_rfl
section
variable{a b out:Array Keyed}{t:Nat}
def Ph(a b out:Array Keyed)(na c:Nat):Prop:=(out.toList++(a.toList.take na++b.toList.take c)).Perm (a.toList++b.toList)
def Ph.swap(m:Ph a b out na nb):Ph b a out nb na:=(List.Perm.append_left _ List.perm_append_comm).trans (List.Perm.trans m List.perm_append_comm)
def Ph.rD(m:Ph a b out na nb)(h:t<=na):Ph a b (out++(a.extract t na).reverse) t nb:=by
 unfold Ph;rw[Array.toList_append,Array.toList_reverse,cY,List.append_assoc];refine List.Perm.trans (List.Perm.append_left _ ?_) m
 have e:a.toList.take na=a.toList.take t++(a.toList.drop t).take (na-t):=by rw[List.take_drop,show t+(na-t)=na by lia];exact(show _=_ by have:=(List.take_append_drop t (a.toList.take na)).symm;rwa [List.take_take,Nat.min_eq_left h] at this)
 rw[e,←List.append_assoc];exact List.Perm.append_right _ ((List.Perm.append_right _ (List.reverse_perm _)).trans List.perm_append_comm)
def U3(h:na-1<a.size)(b:1<=na):out.push a[na-1]=out++(a.extract (na-1) na).reverse:=by apply Array.toList_inj.mp;rw[Array.toList_push,Array.toList_append,Array.toList_reverse,cY];congr 1;rw[show na-(na-1)=1 by lia,List.drop_eq_getElem_cons (by rw[aaG];exact h)];rfl
def Ph.done(m:Ph a b out na nb):Mg a b (jc a b out na nb):=by unfold Mg jc;rw[Array.toList_append,Array.toList_append,cY,cY,Array.toList_reverse];exact List.perm_append_comm.trans ((List.Perm.append_right _ (List.reverse_perm _)).trans m)
theorem Ph.size(m:Ph a b out na nb)(h:1<=na)(c:na<=a.size):out.size<a.size+b.size:=by have:=List.Perm.length_eq m;simp only[aa1,acH,aaG] at this;lia
def Hd(a b:Array Keyed)(na c:Nat):Prop:=1<=na/\2<=c/\na<=a.size/\c<=b.size
end
section
variable{prog:Program}{κ:SortKind}{a₀ a b out:Array Keyed}{mg:Nat}{st st0:SortSt}
end
def crL(lo b a:Nat):StateT SortSt Sem (Option (Option Nat)×Nat):=
 forIn [a:b] ((none,a):Option (Option Nat)×Nat) λ_ c=>do
  match ←ltAt' (lo+c.2) (lo+c.2-1) with
  | some t=>if t=true then pure (.done (none,c.2)) else pure (.yield (none,c.2+1))
  | _=>pure (.done (some none,c.2))
def crR(lo a n:Nat):StateT SortSt Sem (Option Nat):=do
 reverseSlice' lo (lo+n)
 let s ←crL lo a n
 match s.1 with
 | some r=>pure r
 | none=>pure (some s.2)
def crB(lo n q:Nat):StateT SortSt Sem (ForInStep (Option (Option Nat)×Nat×Nat)):=do
 match ←ltAt' (lo+n) (lo+n-1) with
 | some t=>
   if t=true then
    if q>0 then do
     reverseSlice' (lo+n-(q+1)) (lo+n)
     pure (.yield (none,n+1,0))
    else pure (.yield (none,n+1,0))
   else do
    match ←ltAt' (lo+n-1) (lo+n) with
    | some t=>if t=true then pure (.done (none,n,q)) else pure (.yield (none,n+1,q+1))
    | _=>pure (.done (some none,n,q))
 | _=>pure (.done (some none,n,q))
def crD(lo a n:Nat):StateT SortSt Sem (Option Nat):=do
 rule "list.sort.descending-run"
 let s ←forIn [n+1:a] ((none,n+1,0):Option (Option Nat)×Nat×Nat) λ_ c=>crB lo c.2.1 c.2.2
 match s.1 with
 | some r=>pure r
 | none=>
   if s.2.2>0 then do
    reverseSlice' (lo+s.2.1-(s.2.2+1)) (lo+s.2.1)
    crR lo a s.2.1
   else crR lo a s.2.1
def countRun'_eq(lo a:Nat):countRun' lo a=(do
 let s ←crL lo a 1
 match s.1 with
 | some r=>pure r
 | none=>
   if (s.2==a)=true then pure (some s.2) else
   if s.2>1 then do
    match ←ltAt' lo (lo+s.2-1) with
    | some t=>if t=true then pure (some s.2) else do
      reverseSlice' lo (lo+s.2)
      crD lo a s.2
    | _=>pure none
   else crD lo a s.2):=by kernel_rfl
def bsB(lo k:Nat):StateT SortSt Sem (ForInStep (Option Bool×Unit)):=do
 let s ←forIn [0:k] ((none,0,k):Option Bool×Nat×Nat) λ_ c=>
  if c.2.1≥c.2.2 then pure (.done (none,c.2.1,c.2.2)) else do
   match ←ltAt' (lo+k) (lo+(c.2.1+c.2.2) / 2) with
   | some t=>if t=true then pure (.yield (none,c.2.1,(c.2.1+c.2.2) / 2)) else pure (.yield (none,(c.2.1+c.2.2) / 2+1,c.2.2))
   | _=>pure (.done (some false,c.2.1,c.2.2))
 match s.1 with
 | some r=>pure (.done (some r,()))
 | none=>do
   moveDown' (lo+k) (lo+s.2.1)
   pure (.yield (none,()))
def Ka(lo n ok:Nat):binarySort' lo n ok=(do
 let s ←forIn [max ok 1:n] ((none,()):Option Bool×Unit) λk _=>bsB lo k
 match s.1 with
 | some r=>pure r
 | none=>pure true):=by kernel_rfl
def Js(i:Nat):mergeAt' i=(do
 let s ←get
 match (pendingOf s)[i]?,(pendingOf s)[i+1]? with
 | some (c,na,power),some (b,nb,_)=>do
   set (SortSt.mk' (kindOf s) (arrOf s) (((pendingOf s).setIfInBounds i (c,na+nb,power)).eraseIdxIfInBounds (i+1)) (gallopOf s) (failedOf s))
   match ←mU false (←elem' (arrOf s) b) (arrOf s) c na 0 with
   | some k=>
     if (na-k==0)=true then pure true else do
      match ←mU true (←elem' (arrOf s) (c+k+(na-k)-1)) (arrOf s) b nb (nb-1) with
      | some d=>
        if (d==0)=true then pure true else do
         let merged ←if na-k<=d then Bv ((arrOf s).extract (c+k) b) ((arrOf s).extract b (b+d)) else Bw ((arrOf s).extract (c+k) b) ((arrOf s).extract b (b+d))
         modify λs=>setArr s (merged.toList.zipIdx.foldl (λa x=>a.setIfInBounds (c+k+x.2) x.1) (arrOf s))
         return (failedOf (←get)).isNone
      | _=>pure false
   | _=>pure false
 | _,_=>unsupported "internal:list.sort.pending"):=by kernel_rfl
section
variable{prog:Program}{κ:SortKind}{a₀:Array Keyed}{st:SortSt}
structure SB(κ:SortKind)(a₀:Array Keyed)(pd:Array (Nat×Nat×Nat))(st:SortSt):Prop where
 perm:(arrOf st).Perm a₀
 kind:kindOf st=κ
 failed:failedOf st=none
 pend:pendingOf st=pd
theorem SB.size(h:SB κ a₀ pd st):(arrOf st).size=a₀.size:=h.perm.size_eq
def SB.set(h:SB κ a₀ pd st){xs:Array Keyed}(a:xs.Perm (arrOf st)):SB κ a₀ pd (setArr st xs):=⟨a.trans h.perm,h.kind,h.failed,h.pend⟩
def SB.of(h:SB κ a₀ pd st):Of a₀ (arrOf st):=λ_ a=>(Array.perm_iff_toList_perm.mp h.perm).mem_iff.mp a
def Je(b:Nat)(m:List Keyed):∀(n:Nat)(xs:Array Keyed),b+n+m.length<=xs.size->((m.zipIdx n).foldl (λa x=>a.setIfInBounds (b+x.2) x.1) xs).toList=xs.toList.take (b+n)++(m++xs.toList.drop (b+n+m.length)):=by
 induction m with
 | nil=>intro n xs h;simp
 | cons p m c=>
   intro n xs h;rw[ac8] at h;have d:b+n<xs.toList.length:=by rw[aaG];lia
   rw[List.zipIdx_cons,List.foldl_cons,c (n+1) _ (by rw[Array.size_setIfInBounds];lia),Array.toList_setIfInBounds,ac8,List.drop_set_of_lt LZ,show b+(n+1)=b+n+1 by lia,acq,List.take_set_of_le (aav _),List.getElem?_set_self d,show b+n+1+m.length=b+n+(m.length+1) by lia];simp
def UW{b:Nat}{m:List Keyed}{xs:Array Keyed}(e:b+n<=xs.size)(c:m.Perm ((xs.toList.drop b).take n)):((m.zipIdx).foldl (λa x=>a.setIfInBounds (b+x.2) x.1) xs).Perm xs:=by
 have d:m.length=n:=by rw[c.length_eq,acH,List.length_drop,aaG];lia
 refine Array.perm_iff_toList_perm.mpr ?_;rw[Je b m 0 xs LZ,d,Nat.add_zero];refine List.Perm.trans ?_ (List.Perm.of_eq (List.take_append_drop b xs.toList));rw[uF xs.toList b n];exact List.Perm.append_left _ (List.Perm.append_right _ c)
theorem XM{a:Type}{M:Model}{x:a}{Q:PUnit->a->Prop}{st:a}(h:Q ⟨⟩ x):wpS M A E s (set x:StateT a Sem PUnit) Q st:=by unfold wpS;rw[StateT.run_set];exact aaD ⟨Z,h⟩
end
def srP(lo n:Nat):StateT SortSt Sem (ForInStep (Option Unit×Nat)):=do
 modify λs=>setPending s ((pendingOf s).push (lo,n,0))
 pure (.yield (none,lo+n))
def srC(b:Nat):StateT SortSt Sem (ForInStep (Option Unit×Unit)):=do
 let st ←get
 match (if (pendingOf st).size>1 then (pendingOf st)[(pendingOf st).size-2]? else none) with
 | some (_,_,a)=>if a<=b then pure (.done (none,())) else do
   if (!(←mergeAt' ((pendingOf st).size-2)))=true then pure (.done (some (),())) else pure (.yield (none,()))
 | _=>pure (.done (none,()))
def srM(size lo n:Nat):StateT SortSt Sem (ForInStep (Option Unit×Nat)):=do
 let st ←get
 match (pendingOf st).back? with
 | some (b,a,_)=>do
   let s ←forIn [0:size] ((none,()):Option Unit×Unit) λ_ _=>srC (power' size (2*b+a) (2*b+a+a+n) size)
   match s.1 with
   | some r=>pure (.done (some r,lo))
   | none=>do
     modify λs=>setPending s ((pendingOf s).modify ((pendingOf s).size-1) λx=>match x with |(st,len,_)=>(st,len,power' size (2*b+a) (2*b+a+a+n) size))
     srP lo n
 | _=>srP lo n
def srB(size a:Nat)(lo:Nat):StateT SortSt Sem (ForInStep (Option Unit×Nat)):=
 if lo≥size then pure (.done (none,lo)) else do
  match ←countRun' lo (size-lo) with
  | some n=>
    if n<a then do
     rule "list.sort.binary-insertion"
     if (!(←binarySort' lo (min (size-lo) a) n))=true then pure (.done (some (),lo)) else srM size lo (min (size-lo) a)
    else srM size lo n
  | _=>pure (.done (some (),lo))
def srI(p:Array (Nat×Nat×Nat)):Nat:=if Option.any (λx=>decide (x<p[p.size-2+1]?.elim 0 λx=>x.2.1)) (if p.size-2>0 then Option.map (λx=>x.2.1) p[p.size-2-1]? else none)=true then p.size-2-1 else p.size-2
def srF:StateT SortSt Sem (ForInStep (Option Unit×Unit)):=do
 let st ←get
 if (pendingOf st).size<=1 then pure (.done (none,())) else do
  if (!(←mergeAt' (srI (pendingOf st))))=true then pure (.done (some (),())) else pure (.yield (none,()))
def sortRuns'_eq:sortRuns'=(do
 let st ←get
 let s ←forIn [0:(arrOf st).size] ((none,0):Option Unit×Nat) λ_ c=>srB (arrOf st).size (minRun' (arrOf st).size (arrOf st).size 0) c.2
 match s.1 with
 | some r=>pure r
 | none=>do
   let s ←forIn [0:(arrOf st).size] ((none,()):Option Unit×Unit) λ_ _=>srF
   match s.1 with
   | some r=>pure r
   | none=>pure ()):=by kernel_rfl
section
variable{prog:Program}{κ:SortKind}{a₀:Array Keyed}{st:SortSt}{e lo:Nat}
end
end Tip
namespace Tim
open PySem PyProof.Rows Tip
section
variable{prog:Program}{κ:SortKind}{a₀:Array Keyed}
structure wg(prog:Program)(w:World)(A:Around)(s:Shared)(κ:SortKind)(a₀:Array Keyed)(rk:Value->Nat):Prop where
 ask:∀p∈a₀.toList,∀q∈a₀.toList,∀(E:zzx)(Q:Bool->Shared->Prop),Q (decide (rk p.1<rk q.1)) s->wpAny (model prog w) A (keyLt' κ p.1 q.1) Q E s
def R(rk:Value->Nat)(xs:Array Keyed)(i:Nat):Nat:=match xs[i]? with
 | some p=>rk p.1
 | none=>0
def kI{xs ys:Array Keyed}(h:xs[i]?=ys[j]?):R rk xs i=R rk ys j:=by unfold R;rw[h]
def jf{a:Array Keyed}(h:i<a.size):R rk a i=rk (a[i]).1:=by unfold R;rw[getElem?_pos a i h]
def zR{st:SortSt}{p q:Keyed}{Q:Option Bool->SortSt->Prop}(C:wg prog w A s κ a₀ rk)(c:kindOf st=κ)(b:p∈a₀.toList)(a:q∈a₀.toList)(h:Q (some (decide (rk p.1<rk q.1))) st):
 wpS (model prog w) A E s (lt' p q) Q st:=by
 rw[lt'_eq];refine aaE (wpS_get ?_);rw[c];exact aaE (wpS_lift (wpAny_attempt (C.ask p b q a _ _ ⟨Z,aaF h⟩)))
def By(left:Bool)(k r:Nat):Prop:=if left then r<k else r<=k
def oW{st:SortSt}{left:Bool}{key:Keyed}{a:Array Keyed}{base:Nat}{Q:Option Bool->SortSt->Prop}(C:wg prog w A s κ a₀ rk)(d:kindOf st=κ)(c:key∈a₀.toList)(e:Of a₀ a)(hi:base+i<a.size)(h:∀b:Bool,(b=true↔By left (rk key.1) (R rk a (base+i)))->Q (some b) st):wpS (model prog w) A E s (sY left key a base i) Q st:=by
 unfold sY;rw[jf hi] at h;refine aaE (cB hi ?_);cases left with
 | true=>exact zR C d (e.get hi) c (h _ decide_eq_true_iff)
 | false=>exact aaE (zR C d c (e.get hi) (aaF (h _ (by rw[Bool.not_eq_true',decide_eq_false_iff_not,Nat.not_lt];exact Iff.rfl))))
def Seg(rk:Value->Nat)(xs:Array Keyed)(lo hi:Nat):Prop:=∀i j,lo<=i->i<=j->j<hi->R rk xs i<=R rk xs j
def By.anti{left:Bool}{r a:Nat}(h:By left k r)(le:a<=r):By left k a:=by unfold By at *;cases left<;>simp at * <;> lia
def Cut(rk:Value->Nat)(left:Bool)(b:Nat)(a:Array Keyed)(base n lo hi:Nat):Prop:=lo<=hi/\hi<=n/\(∀i,i<lo->By left b (R rk a (base+i))) /\ ∀i,hi<=i->i<n -> ¬By left b (R rk a (base+i))
def Nu{st:SortSt}{left:Bool}{key:Keyed}{a:Array Keyed}{base lo:Nat}{Q:zzr}(C:wg prog w A s κ a₀ rk)(j:kindOf st=κ)(f:key∈a₀.toList)(q:Of a₀ a)(u:base+n<=a.size)(hs:Seg rk a base (base+n))(c:Cut rk left (rk key.1) a base n lo hi)(v:hi<=lo+n)(h:∀k,Cut rk left (rk key.1) a base n k k->Q (some k) st):wpS (model prog w) A E s (glB left key a base n lo hi) Q st:=by
 unfold glB;refine aaE (wpS_mono (wpS_forRange (I:=λx c d=>d=st /\ ∃lo hi,c=(none,lo,hi)/\Cut rk left (rk key.1) a base n lo hi/\hi-lo<=n-x) (Q:=λc d=>d=st /\ ∃k,c=(none,k,k)/\Cut rk left (rk key.1) a base n k k) ?_ ?_ ⟨Z,lo,hi,Z,c,LZ⟩) ?_)
 .rintro x c d _ r ⟨rfl,lo,hi,rfl,c,le⟩
  obtain⟨F,p,o,m⟩:=id c;dsimp only;refine bB (λz=>?_) (λz=>?_)
  .have e:lo=hi:=by lia
   subst e;exact aaF ⟨Z,lo,Z,c⟩
  refine aaE (oW C j f q LZ λb g=>?_);dsimp only;refine bB (λt=>aaF ⟨Z,_,_,Z,⟨LZ,p,λi l=>?_,m⟩,LZ⟩) (λt=>aaF ⟨Z,_,_,Z,⟨LZ,LZ,o,λi D B y=>t (g.mpr ?_)⟩,LZ⟩)
  .exact(g.mp t).anti (hs _ _ LZ LZ LZ)
  .exact y.anti (hs _ _ LZ LZ LZ)
 .rintro c d ⟨rfl,lo,hi,rfl,c,le⟩
  have e:lo=hi:=by have:=c.1;lia
  subst e;exact⟨Z,lo,Z,c⟩
 .rintro c d ⟨rfl,k,rfl,c⟩
  exact aaF (h k c)
theorem jt{st:SortSt}{left:Bool}{key:Keyed}{e:Array Keyed}{base a:Nat}{Q:zzr}(C:wg prog w A s κ a₀ rk)(p:kindOf st=κ)(f:key∈a₀.toList)(B:Of a₀ e)(G:base+n<=e.size)(J:a<n)(hs:Seg rk e base (base+n))(h:∀k,Cut rk left (rk key.1) e base n k k->Q (some k) st):
 wpS (model prog w) A E s (mU left key e base n a) Q st:=by
 rw[Mf];refine aaE (oW C p f B LZ λb F=>?_);dsimp only;refine bB (λt=>?_) (λt=>?_)
 .refine aaE (wpS_mono (wpS_forRange (I:=λx c d=>d=st /\ ∃l o,c=(none,l,o)/\l<o/\x<o/\a+l<n/\By left (rk key.1) (R rk e (base+(a+l))))
   (Q:=λc d=>d=st /\ ∃l o,c=(none,l,o)/\l<o/\a+l<n/\By left (rk key.1) (R rk e (base+(a+l)))/\(o<n-a -> ¬By left (rk key.1) (R rk e (base+(a+o))))) ?_ ?_ ⟨Z,0,1,Z,LZ,LZ,LZ,F.mp t⟩) ?_)
  .rintro x c d _ H ⟨rfl,l,o,rfl,m,v,j,g⟩
   dsimp only;refine bB (λz=>aaF ⟨Z,l,o,Z,m,j,g,λy=>LZ⟩) (λz=>?_);refine aaE (oW C p f B LZ λb u=>?_);dsimp only;refine bB (λy=>aaF ⟨Z,l,o,Z,m,j,g,λ_ q=>?_⟩) (λy=>aaF ⟨Z,_,_,Z,LZ,LZ,LZ,u.mp ?_⟩)
   .rw[u.mpr q] at y;cases y
   .cases b
    .exact adt rfl y
    .rfl
  .rintro c d ⟨rfl,l,o,rfl,m,v,j,g⟩
   exact⟨Z,l,o,Z,m,j,g,λz=>LZ⟩
  .rintro c d ⟨rfl,l,o,rfl,m,v,j,g⟩
   refine Nu C p f B G hs ⟨by dsimp only;lia,by dsimp only;lia,λi r=>?_,λi r D q=>?_⟩ (by dsimp only;lia) h<;>dsimp only at r
   .exact j.anti (hs _ _ LZ LZ LZ)
   .exact g LZ (q.anti (hs _ _ LZ LZ LZ))
 .refine aaE (wpS_mono (wpS_forRange (I:=λx c d=>d=st /\ ∃l o,c=(none,l,o)/\l<o/\x<o/\l<=a /\ ¬By left (rk key.1) (R rk e (base+(a-l))))
   (Q:=λc d=>d=st /\ ∃l o,c=(none,l,o)/\l<o/\l<=a /\ ¬By left (rk key.1) (R rk e (base+(a-l)))/\(o<a+1->By left (rk key.1) (R rk e (base+(a-o))))) ?_ ?_ ⟨Z,0,1,Z,LZ,LZ,LZ,λq=>t (F.mpr q)⟩) ?_)
  .rintro x c d _ H ⟨rfl,l,o,rfl,m,v,j,g⟩
   dsimp only;refine bB (λz=>aaF ⟨Z,l,o,Z,m,j,g,λy=>LZ⟩) (λz=>?_);refine aaE (oW C p f B LZ λb u=>?_);dsimp only;exact bB (λy=>aaF ⟨Z,l,o,Z,m,j,g,λ_=>u.mp y⟩) (λy=>aaF ⟨Z,_,_,Z,LZ,LZ,LZ,λq=>y (u.mpr q)⟩)
  .rintro c d ⟨rfl,l,o,rfl,m,v,j,g⟩
   exact⟨Z,l,o,Z,m,j,g,λz=>LZ⟩
  .rintro c d ⟨rfl,l,o,rfl,m,v,j,g⟩
   refine Nu C p f B G hs ⟨by dsimp only;lia,by dsimp only;lia,λi r=>?_,λi r D q=>?_⟩ (by dsimp only;lia) h<;>dsimp only at r
   .exact(g LZ).anti (hs _ _ LZ LZ LZ)
   .exact j (q.anti (hs _ _ LZ LZ LZ))
end
def Sq(rk:Value->Nat)(l:List Keyed):Prop:=l.Pairwise λx y=>rk x.1<=rk y.1
section
variable{a b out:Array Keyed}
def V0{a:Array Keyed}{x:Keyed}(h:x∈a.toList.drop ia):∃j,ia<=j/\j<a.size/\R rk a j=rk x.1:=by obtain⟨j,b,e⟩:=adb h;rw[List.length_drop,aaG] at b;rw[List.getElem_drop,Array.getElem_toList] at e;exact⟨ia+j,LZ,LZ,by rw[jf LZ,e]⟩
def jK{a:Array Keyed}{x:Keyed}(h:x∈(a.toList.drop ia).take k):∃j,j<k/\ia+j<a.size/\R rk a (ia+j)=rk x.1:=by obtain⟨j,b,e⟩:=adb h;rw[acH,List.length_drop,aaG] at b;rw[List.getElem_take,List.getElem_drop,Array.getElem_toList] at e;exact⟨j,LZ,LZ,by rw[jf LZ,e]⟩
def jG{x y:List Keyed}:Sq rk (x++y)↔Sq rk x/\Sq rk y /\ ∀p∈x,∀q∈y,rk p.1<=rk q.1:=List.pairwise_append
def Seg.Xu(h:Seg rk a 0 a.size):Sq rk a.toList:=List.pairwise_iff_getElem.mpr λi j d b c=>by rw[aaG] at d b;have:=h i j (Nat.zero_le _) (adn c) b;rw[jf d,jf b] at this;simpa using this
structure MI(rk:Value->Nat)(a b out:Array Keyed)(ia ib:Nat):Prop where
 p:Pm a b out ia ib
 sa:Sq rk (out.toList++a.toList.drop ia)
 sb:Sq rk (out.toList++b.toList.drop ib)
def Ms(rk:Value->Nat)(a b r:Array Keyed):Prop:=Mg a b r/\Sq rk r.toList
theorem MI.swap(m:MI rk a b out ia ib):MI rk b a out ib ia:=⟨m.p.swap,m.sb,m.sa⟩
theorem MI.rC(m:MI rk a b out ia ib)(hle:∀i,i<k->ib+i<b.size -> ∀j,ia<=j->j<a.size->R rk b (ib+i)<=R rk a j):MI rk a b (out++b.extract ib (ib+k)) ia (ib+k):=by
 have e:(out++b.extract ib (ib+k)).toList=out.toList++(b.toList.drop ib).take k:=by rw[Array.toList_append,cY];congr 2;lia
 have g:=uF b.toList ib k;refine⟨m.p.rC,?_,by rw[e,List.append_assoc,←g];exact m.sb⟩;rw[e,List.append_assoc];have f:=jG.mp m.sa;have l:=m.sb;rw[g] at l;have h:=jG.mp l;have v:=jG.mp h.2.1;refine jG.mpr ⟨f.1,jG.mpr ⟨v.1,f.2.1,λp d q c=>?_⟩,λp d q c=>?_⟩
 .obtain⟨i,u,t,s⟩:=jK (rk:=rk) d
  obtain⟨j,r,o,n⟩:=V0 (rk:=rk) c;rw[←s,←n];exact hle i u t j r o
 .rcases abA.mp c with c|c
  .exact h.2.2 p d q (List.mem_append_left _ c)
  .exact f.2.2 p d q c
def MI.rD(m:MI rk a b out ia ib)(hle:∀i,i<k->ia+i<a.size -> ∀j,ib<=j->j<b.size->R rk a (ia+i)<=R rk b j):MI rk a b (out++a.extract ia (ia+k)) (ia+k) ib:=(m.swap.rC hle).swap
def MI.Bh(m:MI rk a b out ia ib)(h:ib<b.size)(hle:∀j,ia<=j->j<a.size->R rk b ib<=R rk a j):MI rk a b (out.push b[ib]) ia (ib+1):=by rw[U4 h];refine m.rC (k:=1) λi e f j d c=>?_;rw[show i=0 by lia];exact hle j d c
def MI.Bj(m:MI rk a b out ia ib)(h:ia<a.size)(hle:∀j,ib<=j->j<b.size->R rk a ia<=R rk b j):MI rk a b (out.push a[ia]) (ia+1) ib:=(m.swap.Bh h hle).swap
def JN{l:Array Keyed}(h:l.size<=i):l.toList.drop i=[]:=List.drop_eq_nil_of_le (by rw[aaG];exact h)
theorem MI.done(m:MI rk a b out ia ib)(h:ia=a.size\/ib=b.size):Ms rk a b (iK a b out ia ib):=by
 refine⟨m.p.done,?_⟩
 have e:(iK a b out ia ib).toList=out.toList++(a.toList.drop ia++b.toList.drop ib):=by unfold iK;rw[Array.toList_append,Array.toList_append,cY,cY,List.append_assoc,List.take_of_length_le (by rw[List.length_drop,aaG];exact aav _),List.take_of_length_le (by rw[List.length_drop,aaG];exact aav _)]
 rw[e];rcases h with h|h
 .rw[JN (Nat.le_of_eq h.symm),List.nil_append];exact m.sb
 .rw[JN (l:=b) (Nat.le_of_eq h.symm),List.append_nil];exact m.sa
def MI.last(m:MI rk a b out ia ib)(d:ib<=b.size)(h:∀i j,i<b.size->ia<=j->j<a.size->R rk b i<=R rk a j):Ms rk a b (uq a b out ia ib):=by
 have c:=(m.rC (k:=b.size-ib) λi l d j g f=>h _ _ d g f).done (.inr LZ);rw[show ib+(b.size-ib)=b.size by lia] at c
 have e:iK a b (out++b.extract ib b.size) ia b.size=uq a b out ia ib:=by unfold iK uq;apply Array.toList_inj.mp;rw[Array.toList_append,cY (a:=b) (i:=b.size),Nat.sub_self,List.take_zero,List.append_nil]
 rwa [e] at c
structure Bo(rk:Value->Nat)(a b:Array Keyed):Prop where
 sa:Seg rk a 0 a.size
 sb:Seg rk b 0 b.size
 f:R rk b 0<=R rk a 0
 l:R rk b (b.size-1)<=R rk a (a.size-1)
def Bo.mid(c:Bo rk a b)(hi:i<b.size)(e:a.size<=j+1)(f:j<a.size):R rk b i<=R rk a j:=by have e:=c.sb i (b.size-1) (Nat.zero_le _) LZ LZ;have d:=c.l;rw[show a.size-1=j by lia] at d;exact adl e d
def LJ(rk:Value->Nat)(a b:Array Keyed)(n:Nat){c:Type}:Option (Array Keyed)×Array Keyed×Nat×Nat×c->Prop
 | (none,out,ia,ib,_)=>MI rk a b out ia ib/\ia+2<=a.size/\ib+1<=b.size/\n<=out.size
 | _=>False
def LK(rk:Value->Nat)(a b:Array Keyed)(n:Nat){d:Type}:Option (Array Keyed)×Array Keyed×Nat×Nat×d->Prop
 | (some r,_)=>Ms rk a b r
 | c=>LJ rk a b n c
def LL(rk:Value->Nat)(a b:Array Keyed)(m n:Nat){d:Type}:ForInStep (Option (Array Keyed)×Array Keyed×Nat×Nat×d)->Prop
 | .done c=>LK rk a b m c
 | .yield c=>LJ rk a b n c
def LM(rk:Value->Nat)(a b:Array Keyed)(n:Nat){d:Type}:ForInStep (Option (Array Keyed)×Array Keyed×Nat×Nat×d)->Prop
 | .done c=>∃r t,c=(some r,t)/\Ms rk a b r
 | .yield c=>LJ rk a b n c
end
section
variable{prog:Program}{κ:SortKind}{a₀ a b out:Array Keyed}{mg:Nat}{st st0:SortSt}
def Nj(c:Bo rk a b)(h:MI rk a b out ia ib)(nx:∀j,ib<=j->j<b.size->R rk a ia<=R rk b j)(u:ia+2<=a.size)(g:ib+1<=b.size)(t:m<=out.size)(q:n<=out.size+1)(f:tE st0 st):
 wpS (model prog w) A E s (loC a b ia mg ac bc out ib) (λr d=>tE st0 d/\LL rk a b m n r) st:=by
 unfold loC;refine aaE (cB LZ ?_);have p:=h.Bj (show ia<a.size by lia) nx;dsimp only;refine bB (λe=>aaF ⟨f,p.last LZ λi j l o k=>c.mid l ?_ k⟩) (λe=>?_)
 .have e:ia+1+1=a.size:=by simpa using e
  lia
 have e:¬ia+1+1=a.size:=by simpa using e
 have z:(out.push (a[ia]'LZ)).size=out.size+1:=Array.size_push _;exact bB (λ_=>aaF ⟨f,p,LZ,g,LZ⟩) (λ_=>aaF ⟨f,p,LZ,g,LZ⟩)
def Nk(C:wg prog w A s κ a₀ rk)(N:Of a₀ a)(M:Of a₀ b)(c:Bo rk a b)(G:MI rk a b out ia ib)(nx:∀j,ia<=j->j<a.size->R rk b ib<=R rk a j)(D:ia+2<=a.size)(B:ib+1<=b.size)(Q:m<=out.size)(P:n<=out.size+1)(h:tE st0 st)(I:kindOf st=κ):
 wpS (model prog w) A E s (loB a b ib mg ac bc out ia) (λr o=>tE st0 o/\LL rk a b m n r) st:=by
 unfold loB;refine aaE (cB B ?_);have p:=G.Bh B nx;have z:(out.push b[ib]).size=out.size+1:=Array.size_push _;dsimp only;generalize out.push b[ib]=v at p z ⊢;refine bB (λe=>aaF ⟨h,p.done (.inr (by simpa using e))⟩) (λe=>?_);have e:¬ib+1=b.size:=by simpa using e
 have u:ia<a.size:=by lia
 refine aaE (cB u (aaE (jt C I (N.get u) M LZ LZ (λi j x y z=>c.sb i j (Nat.zero_le _) y LZ) λk K=>?_)));obtain⟨_,H,f,g⟩:=K;rw[←jf (rk:=rk) u] at f g;dsimp only
 have q:MI rk a b (v++b.extract (ib+1) (ib+1+k)) ia (ib+1+k):=p.rC λi J L j t l=>by have F:R rk b (ib+1+i)<R rk a ia:=f i J;have S:=c.sa ia j (Nat.zero_le _) t l;lia
 have d:∀j,ib+1+k<=j->j<b.size->R rk a ia<=R rk b j:=λj t l=>by have F:¬R rk b (ib+1+(j-(ib+1)))<R rk a ia:=g (j-(ib+1)) LZ LZ;rw[show ib+1+(j-(ib+1))=j by lia] at F;lia
 refine bB (λ_=>bB (λe=>aaF ⟨h,q.done (.inr (by simpa using e))⟩) (λe=>?_)) (λO=>?_)
 .have e:¬ib+1+k=b.size:=by simpa using e
  exact Nj c q d D LZ (by rw[Array.size_append];lia) (by rw[Array.size_append];lia) h
 .exact Nj c p (λj t l=>d j LZ l) D LZ LZ LZ h
def Nm(C:wg prog w A s κ a₀ rk)(D:Of a₀ a)(B:Of a₀ b)(c:Bo rk a b)(H:MI rk a b out ia ib)(N:ia+2<=a.size)(o:ib+1<=b.size)(K:m<=out.size)(J:n<=out.size+1)(d:tE st0 st)(h:kindOf st0=κ):
 wpS (model prog w) A E s (loA a b out ia ib ac bc mg) (λr u=>tE st0 u/\LL rk a b m n r) st:=by
 unfold loA;refine aaE (rN λO I=>?_);have d:=d.trans I;have h:=d.k.trans h;refine aaE (cB o (aaE (jt C h (B.get o) D LZ LZ (λi j x y z=>c.sa i j (Nat.zero_le _) y LZ) λk M=>?_)));obtain⟨_,L,g,l⟩:=M;rw[←jf (rk:=rk) o] at g l;dsimp only
 have q:MI rk a b (out++a.extract ia (ia+k)) (ia+k) ib:=H.rD λi v Q j t f=>by have p:R rk a (ia+i)<=R rk b ib:=g i v;have F:=c.sb ib j (Nat.zero_le _) t f;lia
 have G:∀j,ia+k<=j->j<a.size->R rk b ib<=R rk a j:=λj t f=>by have p:¬R rk a (ia+(j-ia))<=R rk b ib:=l (j-ia) LZ LZ;rw[show ia+(j-ia)=j by lia] at p;lia
 refine bB (λ_=>bB (λe=>aaF ⟨d,q.last LZ λi j v t f=>c.mid v ?_ f⟩) (λp=>bB (λe=>aaF ⟨d,q.done (.inl (by simpa using e))⟩) (λF=>?_))) (λP=>Nk C D B c H (λj t f=>G j LZ f) N o K J d h)
 .have e:ia+k+1=a.size:=by simpa using e
  lia
 have p:¬ia+k+1=a.size:=by simpa using p
 have F:¬ia+k=a.size:=by simpa using F
 exact Nk C D B c q G LZ o (by rw[Array.size_append];lia) (by rw[Array.size_append];lia) d h
def XR(C:wg prog w A s κ a₀ rk)(x:Of a₀ a)(v:Of a₀ b)(c:Bo rk a b)(l:MI rk a b out ia ib)(o:ia+2<=a.size)(d:ib+1<=b.size)(D:m<=out.size+1)(B:n<=out.size+1)(q:kindOf st=κ):
 wpS (model prog w) A E s (Tip.lo1 a b mg (none,out,ia,ib,ac,bc)) (λr k=>k=st/\LL rk a b m n r) st:=by
 unfold Tip.lo1;dsimp only;have g:ia<a.size:=by lia
 refine aaE (cB d (aaE (cB g (aaE (zR C q (v.get d) (x.get g) ?_)))));rw[←jf (rk:=rk) d,←jf (rk:=rk) g];dsimp only;refine bB (λt=>aaE (cB d ?_)) (λt=>aaE (cB g ?_))
 .have t:=aaQ t
  have p:=l.Bh d λj h f=>by have:=c.sa ia j (Nat.zero_le _) h f;lia
  have z:(out.push b[ib]).size=out.size+1:=Array.size_push _;refine bB (λe=>aaF ⟨Z,p.done (.inr (by simpa using e))⟩) (λe=>?_);have e:¬ib+1=b.size:=by simpa using e
  exact bB (λ_=>aaF ⟨Z,p,o,LZ,LZ⟩) (λ_=>aaF ⟨Z,p,o,LZ,LZ⟩)
 .have t:¬R rk b ib<R rk a ia:=λy=>t (aaO y)
  have p:=l.Bj g λj h f=>by have:=c.sb ib j (Nat.zero_le _) h f;lia
  have z:(out.push a[ia]).size=out.size+1:=Array.size_push _;refine bB (λe=>aaF ⟨Z,p.last LZ λi j u h f=>c.mid u ?_ f⟩) (λe=>?_)
  .have e:ia+1+1=a.size:=by simpa using e
   lia
  have e:¬ia+1+1=a.size:=by simpa using e
  exact bB (λ_=>aaF ⟨Z,p,LZ,d,LZ⟩) (λ_=>aaF ⟨Z,p,LZ,d,LZ⟩)
def XQ(C:wg prog w A s κ a₀ rk)(l:Of a₀ a)(k:Of a₀ b)(c:Bo rk a b)(o:MI rk a b out ia ib)(v:ia+2<=a.size)(u:ib+1<=b.size)(t:n<=out.size)(j:kindOf st0=κ)(i:tE st0 st):
 wpS (model prog w) A E s (loO a b (none,out,ia,ib,mg)) (λr e=>tE st0 e/\LM rk a b (n+1) r) st:=by
 unfold loO;dsimp only;refine aaE (wpS_mono (wpS_forRange (I:=λy c d=>d=st/\LJ rk a b (n+y) c) (Q:=λc d=>d=st/\LK rk a b (n+1) c) ?_ ?_ ⟨Z,o,v,u,t⟩) ?_)
 .rintro y ⟨_|r,out,ia,ib,ac,g⟩ _ _ _ ⟨rfl,h⟩
  .obtain⟨p,q1,q2,q3⟩:=h
   refine wpS_mono (XR (m:=n+1) (n:=n+(y+1)) C l k c p q1 q2 LZ LZ (i.k.trans j)) λr e h=>?_;cases r with
   | done c=>exact h
   | yield c=>exact h
  .exact h.elim
 .rintro⟨_|r,out,ia,ib,ac,g⟩ _ ⟨rfl,h⟩
  .obtain⟨p,q1,q2,q3⟩:=h
   have:=p.p.size LZ;lia
  .exact h.elim
 rintro⟨_|r,out,ia,ib,ac,g⟩ _ ⟨rfl,h⟩
 .obtain⟨p,q1,q2,q3⟩:=h
  dsimp only;refine aaE (wpS_lift (wpAny_rule ⟨Z,?_⟩));refine aaE (wpS_mono (wpS_forRange (I:=λy c d=>tE st0 d/\LJ rk a b (n+1+y) c) (Q:=λc d=>tE st0 d/\LK rk a b (n+1) c) ?_ ?_ ⟨i,p,q1,q2,q3⟩) ?_)
  .rintro y ⟨_|r,out,ia,ib,mg,ac,g⟩ d _ _ ⟨f,h⟩
   .obtain⟨p,q1,q2,q3⟩:=h
    dsimp only;refine wpS_mono (bB (λ_=>Nm (m:=n+1) (n:=n+1+(y+1)) C l k c p q1 q2 LZ LZ f j) (λ_=>Nm C l k c p q1 q2 LZ LZ f j)) λr e h=>?_;cases r with
    | done c=>exact h
    | yield c=>exact h
   .exact h.elim
  .rintro⟨_|r,out,ia,ib,mg,ac,g⟩ d ⟨f,h⟩
   .obtain⟨p,q1,q2,q3⟩:=h
    have:=p.p.size LZ;lia
   .exact h.elim
  rintro⟨_|r,out,ia,ib,mg,ac,g⟩ d ⟨f,h⟩
  .exact aaE (rN λx q=>aaF ⟨f.trans q,h⟩)
  .exact aaF ⟨f,r,_,Z,h⟩
 .exact aaF ⟨i,r,_,Z,h⟩
theorem Ii{Q:Array Keyed->SortSt->Prop}(C:wg prog w A s κ a₀ rk)(v:kindOf st=κ)(D:Of a₀ a)(z:Of a₀ b)(B:1<=a.size)(g:1<=b.size)(c:Bo rk a b)(h:∀r f,tE st f->Ms rk a b r->Q r f):wpS (model prog w) A E s (Bv a b) Q st:=by
 have p:MI rk a b #[b[0]] 0 1:=MI.Bh (a:=a) (b:=b) (out:= #[]) (ib:=0) (ia:=0) ⟨.refl _,by
  show Sq rk ([]++a.toList.drop 0);rw[List.nil_append,List.drop_zero];exact c.sa.Xu,by
  show Sq rk ([]++b.toList.drop 0);rw[List.nil_append,List.drop_zero];exact c.sb.Xu⟩ g λj q l=>adl c.f (c.sa 0 j (aav _) (Nat.zero_le _) l)
 rw[Jq];refine aaE (wpS_lift (wpAny_rule ⟨Z,?_⟩));refine aaE (cB g ?_);dsimp only;refine bB (λe=>aaF (h _ _ (.refl _) (p.done (.inr (by simpa using e))))) (λo=>?_);refine bB (λe=>aaF (h _ _ (.refl _) (p.last LZ λi j x q l=>c.mid x ?_ l))) (λm=>?_)
 .have e:1=a.size:=by simpa using e
  lia
 have o:¬1=b.size:=by simpa using o
 have m:¬1=a.size:=by simpa using m
 refine aaE (wpS_get ?_);refine aaE (wpS_mono (wpS_forRange (I:=λy c d=>tE st d/\LJ rk a b y c) (Q:=λc d=>tE st d /\ ∃r t,c=(some r,t)/\Ms rk a b r) ?_ ?_ ⟨.refl _,p,LZ,LZ,Nat.zero_le _⟩) ?_)
 .rintro y ⟨_|r,out,ia,ib,mg⟩ d _ _ ⟨k,h⟩
  .obtain⟨p,q1,q2,q3⟩:=h
   refine wpS_mono (XQ (n:=y) C D z c p q1 q2 q3 v k) λr f h=>?_;cases r with
   | done c=>exact h
   | yield c=>exact h
  .exact h.elim
 .rintro⟨_|r,out,ia,ib,mg⟩ d ⟨k,h⟩
  .obtain⟨p,q1,q2,q3⟩:=h
   have:=p.p.size LZ;lia
  .exact h.elim
 rintro c d ⟨k,r,t,rfl,u⟩;exact aaF (h _ _ k u)
end
section
variable{a b out:Array Keyed}{t:Nat}
structure MH(rk:Value->Nat)(a b out:Array Keyed)(na nb:Nat):Prop where
 p:Ph a b out na nb
 sa:Sq rk (a.toList.take na++out.toList.reverse)
 sb:Sq rk (b.toList.take nb++out.toList.reverse)
def Rf{a:Array Keyed}{x:Keyed}(h:x∈a.toList.take na):∃j,j<na/\j<a.size/\R rk a j=rk x.1:=by
 have e:x∈(a.toList.drop 0).take na:=by rw[List.drop_zero];exact h
 obtain⟨j,d,c,b⟩:=jK (rk:=rk) e;rw[Nat.zero_add] at c b;exact⟨j,d,c,b⟩
theorem MH.rD(m:MH rk a b out na nb)(g:t<=na)(hle:∀i,t<=i->i<na->i<a.size -> ∀j,j<nb->j<b.size->R rk b j<=R rk a i):MH rk a b (out++(a.extract t na).reverse) t nb:=by
 have e:(out++(a.extract t na).reverse).toList.reverse=(a.toList.drop t).take (na-t)++out.toList.reverse:=by rw[Array.toList_append,List.reverse_append,Array.toList_reverse,List.reverse_reverse,cY]
 have f:a.toList.take na=a.toList.take t++(a.toList.drop t).take (na-t):=by rw[List.take_drop,show t+(na-t)=na by lia];have:=(List.take_append_drop t (a.toList.take na)).symm;rwa [List.take_take,Nat.min_eq_left g] at this
 refine⟨m.p.rD g,by rw[e,←List.append_assoc,←f];exact m.sa,?_⟩;rw[e];have l:=m.sa;rw[f,List.append_assoc] at l;have k:=jG.mp (jG.mp l).2.1;have d:=jG.mp m.sb;refine jG.mpr ⟨d.1,jG.mpr ⟨k.1,d.2.1,k.2.2⟩,λp h q c=>?_⟩;rcases abA.mp c with c|c
 .obtain⟨i,u,s,r⟩:=Rf (rk:=rk) h
  obtain⟨j,v,o,n⟩:=jK (rk:=rk) c;rw[←r,←n];exact hle _ LZ LZ o i u s
 .exact d.2.2 p h q c
theorem MH.swap(m:MH rk a b out na nb):MH rk b a out nb na:=⟨m.p.swap,m.sb,m.sa⟩
def MH.rC(m:MH rk a b out na nb)(c:t<=nb)(hle:∀i,t<=i->i<nb->i<b.size -> ∀j,j<na->j<a.size->R rk a j<=R rk b i):MH rk a b (out++(b.extract t nb).reverse) na t:=(m.swap.rD c hle).swap
def MH.Bj(m:MH rk a b out na nb)(h:na-1<a.size)(e:1<=na)(hle:∀j,j<nb->j<b.size->R rk b j<=R rk a (na-1)):MH rk a b (out.push a[na-1]) (na-1) nb:=by rw[U3 h e];refine m.rD (Nat.sub_le _ _) λi k g f j d c=>?_;rw[show i=na-1 by lia];exact hle j d c
def MH.Bh(m:MH rk a b out na nb)(h:nb-1<b.size)(c:1<=nb)(hle:∀j,j<na->j<a.size->R rk a j<=R rk b (nb-1)):MH rk a b (out.push b[nb-1]) na (nb-1):=(m.swap.Bj h c hle).swap
def G9:(jc a b out na nb).toList=a.toList.take na++(b.toList.take nb++out.toList.reverse):=by unfold jc;rw[Array.toList_append,Array.toList_append,cY,cY,Array.toList_reverse,List.append_assoc];rfl
theorem MH.done(m:MH rk a b out na nb)(h:na=0\/nb=0):Ms rk a b (jc a b out na nb):=by
 refine⟨m.p.done,?_⟩;rw[G9];rcases h with rfl|rfl
 .exact m.sb
 .exact m.sa
def MH.first(m:MH rk a b out na nb)(h:∀i j,i<nb->i<b.size->j<na->j<a.size->R rk b i<=R rk a j):Ms rk a b (sW a b out na nb):=by
 have c:=m.rD (t:=0) LZ λi _ k g j f d=>h j i f d k g
 have e:sW a b out na nb=jc a b (out++(a.extract 0 na).reverse) 0 nb:=by apply Array.toList_inj.mp;rw[G9,G9,Array.toList_append,List.reverse_append,Array.toList_reverse,List.reverse_reverse,cY];simp
 rw[e];exact c.done (.inl rfl)
def Bo.fst(c:Bo rk a b)(hi:i<1)(d:j<a.size):R rk b i<=R rk a j:=by rw[show i=0 by lia];exact adl c.f (c.sa 0 j (aav _) (Nat.zero_le _) d)
def HJ(rk:Value->Nat)(a b:Array Keyed)(n:Nat){c:Type}:Option (Array Keyed)×Nat×Nat×Array Keyed×c->Prop
 | (none,na,nb,out,_)=>MH rk a b out na nb/\Hd a b na nb/\n<=out.size
 | _=>False
def HK(rk:Value->Nat)(a b:Array Keyed)(n:Nat){d:Type}:Option (Array Keyed)×Nat×Nat×Array Keyed×d->Prop
 | (some r,_)=>Ms rk a b r
 | c=>HJ rk a b n c
def HL(rk:Value->Nat)(a b:Array Keyed)(m n:Nat){d:Type}:ForInStep (Option (Array Keyed)×Nat×Nat×Array Keyed×d)->Prop
 | .done c=>HK rk a b m c
 | .yield c=>HJ rk a b n c
def HM(rk:Value->Nat)(a b:Array Keyed)(n:Nat){d:Type}:ForInStep (Option (Array Keyed)×Nat×Nat×Array Keyed×d)->Prop
 | .done c=>∃r t,c=(some r,t)/\Ms rk a b r
 | .yield c=>HJ rk a b n c
end
section
variable{prog:Program}{κ:SortKind}{a₀ a b out:Array Keyed}{mg:Nat}{st st0:SortSt}
def Np(p:MH rk a b out na nb)(nx:∀j,j<nb->j<b.size->R rk b j<=R rk a (na-1))(h:Hd a b na nb)(q:m<=out.size)(o:n<=out.size+1)(d:tE st0 st):
 wpS (model prog w) A E s (hiC a b na mg ac bc out nb) (λr c=>tE st0 c/\HL rk a b m n r) st:=by
 obtain⟨l,k,t,g⟩:=h;unfold hiC;have i:na-1<a.size:=by lia
 refine aaE (cB i ?_);have p:=p.Bj i l nx;have z:(out.push a[na-1]).size=out.size+1:=Array.size_push _;dsimp only;refine bB (λe=>aaF ⟨d,p.done (.inl (by simpa using e))⟩) (λe=>?_);have e:¬na-1=0:=by simpa using e
 have f:Hd a b (na-1) nb:=⟨LZ,k,LZ,g⟩;exact bB (λ_=>aaF ⟨d,p,f,LZ⟩) (λ_=>aaF ⟨d,p,f,LZ⟩)
def Nq(C:wg prog w A s κ a₀ rk)(N:Of a₀ a)(M:Of a₀ b)(c:Bo rk a b)(p:MH rk a b out na nb)(nx:∀j,j<na->j<a.size->R rk a j<=R rk b (nb-1))(h:Hd a b na nb)(S:m<=out.size)(Q:n<=out.size+1)(l:tE st0 st)(K:kindOf st=κ):
 wpS (model prog w) A E s (hiB a b nb mg ac bc out na) (λr v=>tE st0 v/\HL rk a b m n r) st:=by
 obtain⟨I,U,H,T⟩:=h;unfold hiB;have i:nb-1<b.size:=by lia
 have j:na-1<a.size:=by lia
 refine aaE (cB i ?_);have p:=p.Bh i LZ nx;have z:(out.push b[nb-1]).size=out.size+1:=Array.size_push _;dsimp only;generalize out.push b[nb-1]=G at p z ⊢;refine bB (λe=>aaF ⟨l,p.first λi j D B o d=>c.fst ?_ d⟩) (λe=>?_)
 .have e:nb-1=1:=by simpa using e
  lia
 have e:¬nb-1=1:=by simpa using e
 refine aaE (cB j (aaE (jt C K (N.get j) M LZ LZ (λi j x y z=>c.sb i j (Nat.zero_le _) y LZ) λt L=>?_)));obtain⟨_,J,f,g⟩:=L;rw[←jf (rk:=rk) j] at f g;simp only[Nat.zero_add] at f g;dsimp only
 have q:MH rk a b (G++(b.extract t (nb-1)).reverse) na t:=p.rC J λi D B P j o d=>by have u:¬R rk b i<R rk a (na-1):=g i D B;have F:=c.sa j (na-1) (Nat.zero_le _) LZ LZ;lia
 have k:∀j,j<t->j<b.size->R rk b j<=R rk a (na-1):=λj o d=>by have u:R rk b j<R rk a (na-1):=f j o;lia
 refine bB (λ_=>bB (λe=>aaF ⟨l,q.first λi j D B o d=>c.fst ?_ d⟩) (λu=>bB (λe=>aaF ⟨l,q.done (.inr (by simpa using e))⟩) (λF=>?_))) (λO=>Np p (λj o d=>k j LZ d) ⟨I,LZ,H,LZ⟩ LZ LZ l)
 .have e:t=1:=by simpa using e
  lia
 have u:¬t=1:=by simpa using u
 have F:¬t=0:=by simpa using F
 exact Np q k ⟨I,LZ,H,LZ⟩ (by rw[Array.size_append];lia) (by rw[Array.size_append];lia) l
def Nr(C:wg prog w A s κ a₀ rk)(B:Of a₀ a)(v:Of a₀ b)(c:Bo rk a b)(p:MH rk a b out na nb)(h:Hd a b na nb)(L:m<=out.size)(K:n<=out.size+1)(g:tE st0 st)(k:kindOf st0=κ):
 wpS (model prog w) A E s (hiA a b out na nb ac bc mg) (λr l=>tE st0 l/\HL rk a b m n r) st:=by
 have P:=h;obtain⟨V,O,U,N⟩:=P;unfold hiA;have i:nb-1<b.size:=by lia
 refine aaE (rN λQ G=>?_);have g:=g.trans G;have k:=g.k.trans k;refine aaE (cB i (aaE (jt C k (v.get i) B LZ LZ (λi j x y z=>c.sa i j (Nat.zero_le _) y LZ) λt M=>?_)));obtain⟨_,J,d,f⟩:=M;rw[←jf (rk:=rk) i] at d f;simp only[Nat.zero_add] at d f;dsimp only
 have q:MH rk a b (out++(a.extract t na).reverse) t nb:=p.rD J λi I H T j u o=>by have D:¬R rk a i<=R rk b (nb-1):=f i I H;have W:=c.sb j (nb-1) (Nat.zero_le _) LZ LZ;lia
 have F:∀j,j<t->j<a.size->R rk a j<=R rk b (nb-1):=λj u o=>d j u;refine bB (λ_=>bB (λe=>aaF ⟨g,q.done (.inl (by simpa using e))⟩) (λD=>?_)) (λS=>Nq C B v c p (λj u o=>F j LZ o) h L K g k);have D:¬t=0:=by simpa using D
 exact Nq C B v c q F ⟨LZ,O,LZ,N⟩ (by rw[Array.size_append];lia) (by rw[Array.size_append];lia) g k
def X3(C:wg prog w A s κ a₀ rk)(v:Of a₀ a)(u:Of a₀ b)(c:Bo rk a b)(p:MH rk a b out na nb)(h:Hd a b na nb)(I:m<=out.size+1)(H:n<=out.size+1)(q:kindOf st=κ):
 wpS (model prog w) A E s (hi1 a b mg (none,na,nb,out,ac,bc)) (λr f=>f=st/\HL rk a b m n r) st:=by
 obtain⟨o,D,B,x⟩:=h;unfold hi1;dsimp only;have i:nb-1<b.size:=by lia
 have j:na-1<a.size:=by lia
 refine aaE (cB i (aaE (cB j (aaE (zR C q (u.get i) (v.get j) ?_)))));rw[←jf (rk:=rk) i,←jf (rk:=rk) j];dsimp only;refine bB (λt=>aaE (cB j ?_)) (λt=>aaE (cB i ?_))
 .have t:=aaQ t
  have p:=p.Bj j o λk l g=>by have:=c.sb k (nb-1) (Nat.zero_le _) LZ LZ;lia
  have z:(out.push a[na-1]).size=out.size+1:=Array.size_push _;refine bB (λe=>aaF ⟨Z,p.done (.inl (by simpa using e))⟩) (λe=>?_);have e:¬na-1=0:=by simpa using e
  have d:Hd a b (na-1) nb:=⟨LZ,D,LZ,x⟩;exact bB (λ_=>aaF ⟨Z,p,d,LZ⟩) (λ_=>aaF ⟨Z,p,d,LZ⟩)
 .have t:¬R rk b (nb-1)<R rk a (na-1):=λy=>t (aaO y)
  have p:=p.Bh i LZ λk l g=>by have:=c.sa k (na-1) (Nat.zero_le _) LZ LZ;lia
  have z:(out.push b[nb-1]).size=out.size+1:=Array.size_push _;refine bB (λe=>aaF ⟨Z,p.first λi j G F l g=>c.fst ?_ g⟩) (λe=>?_)
  .have e:nb-1=1:=by simpa using e
   lia
  have e:¬nb-1=1:=by simpa using e
  have d:Hd a b na (nb-1):=⟨o,LZ,B,LZ⟩;exact bB (λ_=>aaF ⟨Z,p,d,LZ⟩) (λ_=>aaF ⟨Z,p,d,LZ⟩)
def XS(C:wg prog w A s κ a₀ rk)(l:Of a₀ a)(k:Of a₀ b)(c:Bo rk a b)(p:MH rk a b out na nb)(h:Hd a b na nb)(t:n<=out.size)(j:kindOf st0=κ)(i:tE st0 st):
 wpS (model prog w) A E s (hiO a b (none,na,nb,out,mg)) (λr e=>tE st0 e/\HM rk a b (n+1) r) st:=by
 unfold hiO;dsimp only;refine aaE (wpS_mono (wpS_forRange (I:=λy c d=>d=st/\HJ rk a b (n+y) c) (Q:=λc d=>d=st/\HK rk a b (n+1) c) ?_ ?_ ⟨Z,p,h,t⟩) ?_)
 .rintro y ⟨_|r,na,nb,out,ac,g⟩ _ _ _ ⟨rfl,h⟩
  .obtain⟨p,q,q3⟩:=h
   refine wpS_mono (X3 (m:=n+1) (n:=n+(y+1)) C l k c p q LZ LZ (i.k.trans j)) λr e h=>?_;cases r with
   | done c=>exact h
   | yield c=>exact h
  .exact h.elim
 .rintro⟨_|r,na,nb,out,ac,g⟩ _ ⟨rfl,h⟩
  .obtain⟨p,q,q3⟩:=h
   have:=p.p.size q.1 q.2.2.1;lia
  .exact h.elim
 rintro⟨_|r,na,nb,out,ac,g⟩ _ ⟨rfl,h⟩
 .obtain⟨p,q,q3⟩:=h
  dsimp only;refine aaE (wpS_lift (wpAny_rule ⟨Z,?_⟩));refine aaE (wpS_mono (wpS_forRange (I:=λy c d=>tE st0 d/\HJ rk a b (n+1+y) c) (Q:=λc d=>tE st0 d/\HK rk a b (n+1) c) ?_ ?_ ⟨i,p,q,q3⟩) ?_)
  .rintro y ⟨_|r,na,nb,out,mg,ac,g⟩ d _ _ ⟨f,h⟩
   .obtain⟨p,q,q3⟩:=h
    dsimp only;refine wpS_mono (bB (λ_=>Nr (m:=n+1) (n:=n+1+(y+1)) C l k c p q LZ LZ f j) (λ_=>Nr C l k c p q LZ LZ f j)) λr e h=>?_;cases r with
    | done c=>exact h
    | yield c=>exact h
   .exact h.elim
  .rintro⟨_|r,na,nb,out,mg,ac,g⟩ d ⟨f,h⟩
   .obtain⟨p,q,q3⟩:=h
    have:=p.p.size q.1 q.2.2.1;lia
   .exact h.elim
  rintro⟨_|r,na,nb,out,mg,ac,g⟩ d ⟨f,h⟩
  .exact aaE (rN λu o=>aaF ⟨f.trans o,h⟩)
  .exact aaF ⟨f,r,_,Z,h⟩
 .exact aaF ⟨i,r,_,Z,h⟩
theorem Ij{Q:Array Keyed->SortSt->Prop}(C:wg prog w A s κ a₀ rk)(B:kindOf st=κ)(G:Of a₀ a)(F:Of a₀ b)(m:1<=a.size)(D:1<=b.size)(c:Bo rk a b)(h:∀r f,tE st f->Ms rk a b r->Q r f):wpS (model prog w) A E s (Bw a b) Q st:=by
 have i:a.size-1<a.size:=by lia
 have g:∀x:Array Keyed,x.toList.take x.size=x.toList:=λx=>List.take_of_length_le (by rw[aaG];exact aav _)
 have p:MH rk a b #[a[a.size-1]] (a.size-1) b.size:=by
  refine MH.Bj (out:= #[]) (na:=a.size) ⟨?_,?_,?_⟩ i m λj _ l=>c.mid l LZ i
  .unfold Ph
   rw[g,g];exact .refl _
  .rw[g]
   show Sq rk (a.toList++[]);rw[List.append_nil];exact c.sa.Xu
  .rw[g]
   show Sq rk (b.toList++[]);rw[List.append_nil];exact c.sb.Xu
 rw[Jr];refine aaE (wpS_lift (wpAny_rule ⟨Z,?_⟩));refine aaE (cB i ?_);dsimp only;refine bB (λe=>aaF (h _ _ (.refl _) (p.done (.inl (by simpa using e))))) (λu=>?_);refine bB (λe=>aaF (h _ _ (.refl _) (p.first λi j K J H l=>c.fst ?_ l))) (λo=>?_)
 .have e:b.size=1:=by simpa using e
  lia
 have u:¬a.size-1=0:=by simpa using u
 have o:¬b.size=1:=by simpa using o
 refine aaE (wpS_get ?_);refine aaE (wpS_mono (wpS_forRange (I:=λy c d=>tE st d/\HJ rk a b y c) (Q:=λc d=>tE st d /\ ∃r t,c=(some r,t)/\Ms rk a b r) ?_ ?_ ⟨.refl _,p,⟨LZ,LZ,LZ,aav _⟩,Nat.zero_le _⟩) ?_)
 .rintro y ⟨_|r,na,v,out,mg⟩ d _ _ ⟨k,h⟩
  .obtain⟨p,q,q3⟩:=h
   refine wpS_mono (XS (n:=y) C G F c p q q3 B k) λr f h=>?_;cases r with
   | done c=>exact h
   | yield c=>exact h
  .exact h.elim
 .rintro⟨_|r,na,v,out,mg⟩ d ⟨k,h⟩
  .obtain⟨p,q,q3⟩:=h
   have:=p.p.size q.1 q.2.2.1;lia
  .exact h.elim
 rintro c d ⟨k,r,t,rfl,z⟩;exact aaF (h _ _ k z)
end
section
variable{prog:Program}{κ:SortKind}{a₀:Array Keyed}{st st':SortSt}
def wpS_ltAt{Q:Option Bool->SortSt->Prop}(C:wg prog w A s κ a₀ rk)(c:SB κ a₀ pd st)(hi:i<a₀.size)(a:j<a₀.size)(h:∀b:Bool,(b=true↔R rk (arrOf st) i<R rk (arrOf st) j)->Q (some b) st):wpS (model prog w) A E s (ltAt' i j) Q st:=by
 rw[ltAt'_eq];have hi:i<(arrOf st).size:=by rw[c.size];exact hi
 have a:j<(arrOf st).size:=by rw[c.size];exact a
 rw[jf hi,jf a] at h;exact aaE (wpS_get (aaE (cB hi (aaE (cB a (zR C c.kind (c.of.get hi) (c.of.get a) (h _ decide_eq_true_iff)))))))
def Kb(lo:Nat)(st a:SortSt):Prop:=∀i,i<lo->(arrOf a)[i]?=(arrOf st)[i]?
def Kb.refl{lo:Nat}:Kb lo st st:=λ_ _=>rfl
theorem Kb.trans{lo:Nat}{a b c:SortSt}(h:Kb lo a b)(g:Kb lo b c):Kb lo a c:=λi d=>(g i d).trans (h i d)
def Rv(i j:Nat)(st a:SortSt):Prop:=∀k,(arrOf a)[k]?=if i<=k/\k<j then (arrOf st)[i+j-1-k]? else (arrOf st)[k]?
def Rv.kb{lo:Nat}(h:Rv i j st st')(l:lo<=i):Kb lo st st':=λk a=>by rw[h k,adp LZ]
def Rv.R{i j:Nat}(h:Rv i j st st')(k:Nat):R rk (arrOf st') k=if i<=k/\k<j then R rk (arrOf st) (i+j-1-k) else R rk (arrOf st) k:=by
 have e:=h k
 by_cases z:i<=k/\k<j
 .rw[adq z] at e ⊢;exact kI e
 .rw[adp z] at e ⊢;exact kI e
def Rv.eq(h:Rv i j st st')(q:∀k,i<=k->k<j->Tim.R rk (arrOf st) k=Tim.R rk (arrOf st) (j-1))(k:Nat):Tim.R rk (arrOf st') k=Tim.R rk (arrOf st) k:=by
 rw[h.R];split
 .rw[q _ LZ LZ,q k LZ LZ]
 .rfl
def yU{Q:PUnit->SortSt->Prop}(a:SB κ a₀ pd st)(b:j<=a₀.size)(h:∀st',SB κ a₀ pd st'->Rv i j st st'->Q ⟨⟩ st'):wpS (model prog w) A E s (reverseSlice' i j) Q st:=by rw[reverseSlice'_eq];exact wpS_modify (h _ (a.set (mirror_perm _ _ _ _)) λk=>getElem?_mirror_all (by rw[a.size];exact b) k)
def Dwn(rk:Value->Nat)(xs:Array Keyed)(lo hi:Nat):Prop:=∀i j,lo<=i->i<=j->j<hi->R rk xs j<=R rk xs i
def Seg.ext{xs:Array Keyed}{lo:Nat}(h:Seg rk xs lo hi)(g:R rk xs (hi-1)<=R rk xs hi)(l:lo<hi):Seg rk xs lo (hi+1):=λi j a b c=>by
 by_cases e:j<hi
 .exact h i j a b e
 .rw[show j=hi by lia]
  by_cases d:i=hi
  .rw[d];exact aav _
  .exact adl (h i (hi-1) a LZ LZ) g
def Dwn.ext{xs:Array Keyed}{lo:Nat}(h:Dwn rk xs lo hi)(g:R rk xs hi<=R rk xs (hi-1))(l:lo<hi):Dwn rk xs lo (hi+1):=λi j a b c=>by
 by_cases e:j<hi
 .exact h i j a b e
 .rw[show j=hi by lia]
  by_cases d:i=hi
  .rw[d];exact aav _
  .exact adl g (h i (hi-1) a LZ LZ)
def Ny{lo a:Nat}{Q:Option (Option Nat)×Nat->SortSt->Prop}(C:wg prog w A s κ a₀ rk)(k:lo+nrem<=a₀.size)(l:1<=a)(g:a<=nrem)(i:SB κ a₀ pd st)(hs:Seg rk (arrOf st) lo (lo+a))(h:∀m,a<=m->m<=nrem->Seg rk (arrOf st) lo (lo+m)->(m=nrem\/R rk (arrOf st) (lo+m)<R rk (arrOf st) (lo+m-1))->Q (none,m) st):wpS (model prog w) A E s (crL lo nrem a) Q st:=by
 refine wpS_forRange (I:=λx c d=>d=st/\c=(none,x)/\Seg rk (arrOf st) lo (lo+x)) ?_ ?_ ⟨Z,Z,hs⟩
 .rintro x c d f j ⟨rfl,rfl,hs⟩
  refine aaE (wpS_ltAt C i (by dsimp only;lia) (by dsimp only;lia) λb e=>?_);refine bB (λt=>aaF (h x f LZ hs (.inr (e.mp t)))) (λt=>aaF ⟨Z,Z,?_⟩);exact hs.ext (Nat.le_of_not_lt λz=>t (e.mpr z)) LZ
 .rintro c d ⟨rfl,rfl,hs⟩
  rw[show max a nrem=nrem by lia] at hs ⊢;exact h nrem g (aav _) hs (.inl rfl)
def Nv{lo:Nat}{Q:zzr}(C:wg prog w A s κ a₀ rk)(o:lo+nrem<=a₀.size)(g:1<=n)(f:n<=nrem)(q:SB κ a₀ pd st)(p:Dwn rk (arrOf st) lo (lo+n))(h:∀m st',SB κ a₀ pd st'->Kb lo st st'->1<=m->m<=nrem->Seg rk (arrOf st') lo (lo+m)->Q (some m) st'):wpS (model prog w) A E s (crR lo nrem n) Q st:=by refine aaE (yU q LZ λst' d e=>aaE (Ny C o g f d (λi j a b c=>?_) λm r k l _=>aaF (h m st' d (e.kb (aav _)) LZ k l)));rw[e.R,e.R,adq LZ,adq LZ];exact p _ _ LZ LZ LZ
structure Dq(rk:Value->Nat)(lo x q:Nat)(st:SortSt):Prop where
 d:Dwn rk (arrOf st) lo (lo+x)
 l:q+1<=x
 e:∀i,lo+x-(q+1)<=i->i<lo+x->R rk (arrOf st) i=R rk (arrOf st) (lo+x-1)
def Dq.one{lo x:Nat}(d:Dwn rk (arrOf st) lo (lo+x))(l:1<=x):Dq rk lo x 0 st:=⟨d,l,λi a b=>by congr 1;lia⟩
theorem Nz{lo:Nat}{Q:zzr}(C:wg prog w A s κ a₀ rk)(y:lo+nrem<=a₀.size)(L:n+1<=nrem)(H:SB κ a₀ pd st)(G:Dwn rk (arrOf st) lo (lo+(n+1)))(h:∀m st',SB κ a₀ pd st'->Kb lo st st'->1<=m->m<=nrem->Seg rk (arrOf st') lo (lo+m)->Q (some m) st'):wpS (model prog w) A E s (crD lo nrem n) Q st:=by
 unfold crD;refine aaE (wpS_lift (wpAny_rule ⟨Z,?_⟩));refine aaE (wpS_mono (wpS_forRange (I:=λx c st'=>SB κ a₀ pd st'/\Kb lo st st' /\ ∃q,c=(none,x,q)/\Dq rk lo x q st') (Q:=λc st'=>SB κ a₀ pd st'/\Kb lo st st' /\ ∃x q,c=(none,x,q)/\Dq rk lo x q st'/\x<=nrem) ?_ ?_ ⟨H,.refl,0,Z,.one G LZ⟩) ?_)
 .rintro x c st' K J ⟨d,f,q,rfl,e⟩
  dsimp only;unfold crB;have dl:=e.l;refine aaE (wpS_ltAt C d LZ LZ λb B=>?_);dsimp only;refine bB (λt=>?_) (λt=>?_)
  .have D:=e.d.ext (adn (B.mp t)) LZ
   refine bB (λ_=>aaE (yU d LZ λp o k=>aaF ⟨o,f.trans (k.kb LZ),_,Z,.one (λi j a b c=>?_) LZ⟩)) (λ_=>aaF ⟨d,f,_,Z,.one D LZ⟩);rw[k.eq e.e,k.eq e.e];exact D i j a b c
  refine aaE (wpS_ltAt C d LZ LZ λM u=>?_);refine bB (λ_=>aaF ⟨d,f,x,q,Z,e,LZ⟩) (λF=>aaF ⟨d,f,_,Z,?_⟩);have ge:R rk (arrOf st') (lo+x-1)<=R rk (arrOf st') (lo+x):=Nat.le_of_not_lt λz=>t (B.mpr z);have le:R rk (arrOf st') (lo+x)<=R rk (arrOf st') (lo+x-1):=Nat.le_of_not_lt λz=>F (u.mpr z);refine⟨e.d.ext le LZ,LZ,λi a b=>?_⟩;rw[show lo+(x+1)-1=lo+x by lia]
  by_cases z:i=lo+x
  .rw[z]
  .rw[e.e i LZ LZ];lia
 .rintro c st' ⟨d,f,q,rfl,e⟩
  rw[show max (n+1) nrem=nrem by lia] at e ⊢;exact⟨d,f,nrem,q,Z,e,aav _⟩
 .rintro c st' ⟨d,f,x,q,rfl,e,v⟩
  have dl:=e.l;refine bB (λ_=>aaE (yU d (by dsimp only;lia) λp o k=>Nv C y (by dsimp only;lia) v o (λi j a b c=>?_) λm g l r=>h m g l ((f.trans (k.kb (by dsimp only;lia))).trans r))) (λ_=>Nv C y (by dsimp only;lia) v d e.d λm g l r=>h m g l (f.trans r));rw[k.eq e.e,k.eq e.e];exact e.d i j a b c
def wpS_countRun{lo:Nat}{Q:zzr}(C:wg prog w A s κ a₀ rk)(o:lo+nrem<=a₀.size)(J:1<=nrem)(d:SB κ a₀ pd st)(h:∀m st',SB κ a₀ pd st'->Kb lo st st'->1<=m->m<=nrem->Seg rk (arrOf st') lo (lo+m)->Q (some m) st'):wpS (model prog w) A E s (countRun' lo nrem) Q st:=by
 rw[Tip.countRun'_eq];refine aaE (Ny C o (aav _) J d (λi j a b c=>by rw[show i=j by lia];exact aav _) λm v u f n=>?_);dsimp only;refine bB (λ_=>aaF (h m _ d .refl v u f)) (λe=>?_);have e:¬m=nrem:=λz=>e (beq_iff_eq.mpr z);have lt:=n.resolve_left e;refine bB (λ_=>aaE (wpS_ltAt C d LZ LZ λb I=>?_)) (λgt=>Nz C o LZ d (λi j a b c=>?_) h)
 .refine bB (λ_=>aaF (h m _ d .refl v u f)) (λt=>aaE (yU d LZ λy q l=>Nz C o LZ q (λi j a b c=>?_) λB g p D=>h B g p ((l.kb (aav _)).trans D)))
  have r:R rk (arrOf st) (lo+m-1)<=R rk (arrOf st) lo:=Nat.le_of_not_lt λz=>t (I.mpr z)
  have all:∀k,lo<=k->k<lo+m->R rk (arrOf st) k=R rk (arrOf st) (lo+m-1):=λk x F=>by have M:=f lo k (aav _) x F;have L:=f k (lo+m-1) x LZ LZ;lia
  rw[l.eq all,l.eq all]
  by_cases G:j<lo+m
  .rw[all i a LZ,all j LZ G];exact aav _
  .rw[show j=lo+m by lia]
   by_cases H:i=lo+m
   .rw[H];exact aav _
   .rw[all i a LZ];lia
 .have K:m=1:=by lia
  subst K
  by_cases z:i=j
  .rw[z];exact aav _
  .rw[show i=lo+1-1 by lia,show j=lo+1 by lia];lia
def Km{xs:Array Keyed}{src d:Nat}(hs:src<xs.size)(c:d<=src)(k:Nat):
 R rk (bubble xs src d) k=if k=src-d then R rk xs src else if src-d<k/\k<=src then R rk xs (k-1) else R rk xs k:=by
 have e:=getElem?_bubble hs d c k
 by_cases b:k=src-d
 .rw[adq b] at e ⊢;exact kI e
 .rw[adp b] at e ⊢
  by_cases a:src-d<k/\k<=src
  .rw[adq a] at e ⊢;exact kI e
  .rw[adp a] at e ⊢;exact kI e
theorem Il{lo ok:Nat}{Q:Bool->SortSt->Prop}(C:wg prog w A s κ a₀ rk)(U:lo+n<=a₀.size)(B:1<=ok)(H:ok<=n)(K:SB κ a₀ pd st)(hs:Seg rk (arrOf st) lo (lo+ok))(h:∀st',SB κ a₀ pd st'->Kb lo st st'->Seg rk (arrOf st') lo (lo+n)->Q true st'):wpS (model prog w) A E s (binarySort' lo n ok) Q st:=by
 rw[Ka,show max ok 1=ok by lia];refine aaE (wpS_mono (wpS_forRange (I:=λk c st'=>c=(none,())/\SB κ a₀ pd st'/\Kb lo st st'/\Seg rk (arrOf st') lo (lo+k)) (Q:=λc st'=>c=(none,())/\SB κ a₀ pd st'/\Kb lo st st'/\Seg rk (arrOf st') lo (lo+n)) ?_ ?_ ⟨Z,K,.refl,hs⟩) ?_)
 .rintro k c st' S P ⟨rfl,g,u,f⟩
  unfold bsB;have N:=g.size
  refine aaE (wpS_mono (wpS_forRange (I:=λx c d=>d=st' /\ ∃l r,c=(none,l,r)/\l<=r/\r<=k/\r-l<=k-x/\(∀i,i<l->R rk (arrOf st') (lo+i)<=R rk (arrOf st') (lo+k)) /\ ∀i,r<=i->i<k->R rk (arrOf st') (lo+k)<R rk (arrOf st') (lo+i))
   (Q:=λc d=>d=st' /\ ∃l,c=(none,l,l)/\l<=k/\(∀i,i<l->R rk (arrOf st') (lo+i)<=R rk (arrOf st') (lo+k)) /\ ∀i,l<=i->i<k->R rk (arrOf st') (lo+k)<R rk (arrOf st') (lo+i)) ?_ ?_ ⟨Z,0,k,Z,LZ,LZ,LZ,λi z=>LZ,λi z y=>LZ⟩) ?_)
  .rintro x c d _ T ⟨rfl,l,r,rfl,D,q,m,o,p⟩
   refine bB (λz=>?_) (λz=>?_)<;>dsimp only at z ⊢
   .have e:l=r:=by lia
    subst e;exact aaF ⟨Z,l,Z,q,o,p⟩
   refine aaE (wpS_ltAt C g LZ LZ λb v=>?_);refine bB (λt=>aaF ⟨Z,_,_,Z,LZ,LZ,LZ,o,λi L W=>?_⟩) (λt=>aaF ⟨Z,_,_,Z,LZ,q,LZ,λi L=>?_,p⟩)
   .exact aa_ (v.mp t) (f _ _ LZ LZ LZ)
   .exact adl (f (lo+i) (lo+(l+r) / 2) LZ LZ LZ) (Nat.le_of_not_lt λy=>t (v.mpr y))
  .rintro c d ⟨rfl,l,r,rfl,D,q,m,o,p⟩
   have e:l=r:=by lia
   subst e;exact⟨Z,l,Z,q,o,p⟩
  .rintro c d ⟨rfl,l,rfl,O,o,p⟩
   refine aaE ?_;rw[moveDown'_eq];refine wpS_modify (aaF ⟨Z,g.set (bubble_perm _ _ _),u.trans λi V=>?_,λi j a b c=>?_⟩)
   .show (bubble (arrOf d) (lo+k) (lo+k-(lo+l)))[i]?=_
    rw[getElem?_bubble LZ _ LZ,adp LZ,adp LZ]
   show R rk (bubble (arrOf d) (lo+k) (lo+k-(lo+l))) i<=R rk (bubble (arrOf d) (lo+k) (lo+k-(lo+l))) j;rw[Km LZ LZ,Km LZ LZ,show lo+k-(lo+k-(lo+l))=lo+l by lia]
   have M:∀i,lo<=i->i<lo+l->R rk (arrOf d) i<=R rk (arrOf d) (lo+k):=λi G F=>by have:=o (i-lo) LZ;rwa [show lo+(i-lo)=i by lia] at this
   have L2:∀i,lo+l<=i->i<lo+k->R rk (arrOf d) (lo+k)<R rk (arrOf d) i:=λi G F=>by have:=p (i-lo) LZ LZ;rwa [show lo+(i-lo)=i by lia] at this
   repeat' split
   all_goals first
    | (exfalso;lia)
    | exact aav _
    | exact M _ LZ LZ
    | exact adn (L2 _ LZ LZ)
    | exact f _ _ LZ LZ LZ
 .rintro c st' ⟨J,g,u,f⟩
  rw[show max ok n=n by lia] at f;exact⟨J,g,u,f⟩
 .rintro c st' ⟨rfl,g,u,f⟩
  exact aaF (h st' g u f)
end
section
variable{prog:Program}{κ:SortKind}{a₀:Array Keyed}{st st':SortSt}{e lo:Nat}
def yE{xs:Array Keyed}{lo:Nat}(h:lo+i<hi)(a:hi<=xs.size):R rk (xs.extract lo hi) i=R rk xs (lo+i):=by apply kI;rw[Array.getElem?_extract,adq LZ]
def Ke(b e:Nat)(st a:SortSt):Prop:=∀j,j<b\/e<=j->(arrOf a)[j]?=(arrOf st)[j]?
theorem Ik{g I f Y:Nat}{Q:Bool->SortSt->Prop}(C:wg prog w A s κ a₀ rk)(H:SB κ a₀ pd st)(h1:pd[i]?=some (g,na,I))(h2:pd[i+1]?=some (f,nb,Y))(a1:g+na=f)(a3:1<=na)(a2:1<=nb)(hz:f+nb<=a₀.size)(F:Seg rk (arrOf st) g f)(D:Seg rk (arrOf st) f (f+nb))(h:∀st',SB κ a₀ ((pd.setIfInBounds i (g,na+nb,I)).eraseIdxIfInBounds (i+1)) st'->Ke g (f+nb) st st'->Seg rk (arrOf st') g (f+nb)->Q true st'):wpS (model prog w) A E s (mergeAt' i) Q st:=by
 rw[Tip.Js];refine aaE (wpS_get ?_);rw[H.pend,h1,h2];dsimp only;have sz:(arrOf st).size=a₀.size:=H.size;refine aaE (XM ?_);have u:SB κ a₀ ((pd.setIfInBounds i (g,na+nb,I)).eraseIdxIfInBounds (i+1)) (SortSt.mk' (kindOf st) (arrOf st) ((pd.setIfInBounds i (g,na+nb,I)).eraseIdxIfInBounds (i+1)) (gallopOf st) (failedOf st)):=⟨H.perm,H.kind,H.failed,Z⟩;have t:arrOf (SortSt.mk' (kindOf st) (arrOf st) ((pd.setIfInBounds i (g,na+nb,I)).eraseIdxIfInBounds (i+1)) (gallopOf st) (failedOf st))=arrOf st:=Z;generalize (pd.setIfInBounds i (g,na+nb,I)).eraseIdxIfInBounds (i+1)=K at u t h ⊢;generalize SortSt.mk' (kindOf st) (arrOf st) K (gallopOf st) (failedOf st)=v at u t ⊢;have of:=H.of;clear h1 h2;have zb:f<(arrOf st).size:=by lia
 have P:Ke g (f+nb) st v:=λj _=>by rw[t]
 refine aaE (cB zb (aaE (jt C u.kind (of.get zb) of LZ LZ (by rw[a1];exact F) λk hc=>?_)));obtain⟨_,k1,N,O⟩:=hc;rw[←jf (rk:=rk) zb] at N O;dsimp only
 have F1:∀i,g<=i->i<g+k -> ∀j,g+k<=j->j<f+nb->R rk (arrOf st) i<=R rk (arrOf st) j:=λi a b j c d=>by
  by_cases z:j<f
  .exact F i j a LZ z
  .have J:R rk (arrOf st) (g+(i-g))<=R rk (arrOf st) f:=N (i-g) LZ
   rw[show g+(i-g)=i by lia] at J;exact adl J (D f j (aav _) LZ d)
 refine bB (λe=>aaF (h v u P λi j a b c=>?_)) (λe=>?_)
 .have e:na-k=0:=eq_of_beq e
  rw[t]
  by_cases y:i<f
  .by_cases z:j<f
   .exact F i j a b z
   .exact F1 i a LZ j LZ c
  .exact D i j LZ b c
 have ek:k<na:=by have:¬na-k=0:=λz=>e (beq_iff_eq.mpr z);lia
 have X:g+k+(na-k)-1<(arrOf st).size:=by lia
 refine aaE (cB X (aaE (jt C u.kind (of.get X) of LZ LZ D λl hc=>?_)));obtain⟨_,l1,L,M⟩:=hc;rw[←jf (rk:=rk) X,show g+k+(na-k)-1=f-1 by lia] at L M;dsimp only
 have F2:∀i,g<=i->i<f+l -> ∀j,f+l<=j->j<f+nb->R rk (arrOf st) i<=R rk (arrOf st) j:=λi a b j c d=>by
  by_cases z:i<f
  .have J:¬R rk (arrOf st) (f+(j-f))<R rk (arrOf st) (f-1):=M (j-f) LZ LZ
   rw[show f+(j-f)=j by lia] at J;have:=F i (f-1) a LZ LZ;lia
  .exact D i j LZ LZ d
 refine bB (λe=>aaF (h v u P λi j a b c=>?_)) (λe=>?_)
 .have e:l=0:=eq_of_beq e
  rw[t]
  by_cases y:i<f
  .by_cases z:j<f
   .exact F i j a b z
   .exact F2 i a LZ j LZ c
  .exact D i j LZ b c
 have e2:¬l=0:=λz=>e (beq_iff_eq.mpr z);have xz:((arrOf st).extract (g+k) f).size=f-(g+k):=by rw[Array.size_extract,Nat.min_eq_left LZ]
 have yz:((arrOf st).extract f (f+l)).size=l:=by rw[Array.size_extract,Nat.min_eq_left LZ];lia
 have sub:∀i j,Of a₀ ((arrOf st).extract i j):=λi j p hp=>of p (by rw[cY] at hp;exact List.mem_of_mem_drop (List.mem_of_mem_take hp))
 have bo:Bo rk ((arrOf st).extract (g+k) f) ((arrOf st).extract f (f+l)):=by
  refine⟨λi j a b c=>?_,λi j a b c=>?_,?_,?_⟩
  .rw[xz] at c
   rw[yE LZ LZ,yE LZ LZ];exact F _ _ LZ LZ LZ
  .rw[yz] at c
   rw[yE LZ LZ,yE LZ LZ];exact D _ _ LZ LZ LZ
  .have J:¬R rk (arrOf st) (g+k)<=R rk (arrOf st) f:=O k (aav _) ek
   rw[yE LZ LZ,yE LZ LZ,Nat.add_zero,Nat.add_zero];lia
  .have J:R rk (arrOf st) (f+(l-1))<R rk (arrOf st) (f-1):=L (l-1) LZ
   rw[xz,yz,yE LZ LZ,yE LZ LZ,show g+k+(f-(g+k)-1)=f-1 by lia];lia
 have T:∀r m,tE v m->Ms rk ((arrOf st).extract (g+k) f) ((arrOf st).extract f (f+l)) r->wpS (model prog w) A E s (do
  modify λs=>setArr s (List.foldl (λa x=>a.setIfInBounds (g+k+x.2) x.1) (arrOf s) r.toList.zipIdx)
  return (failedOf (←get)).isNone) Q m:=λr m U mg=>by
  obtain⟨mg,Xu⟩:=mg;refine aaE (wpS_modify (aaE (wpS_get ?_)));have hf:failedOf (setArr m (List.foldl (λa x=>a.setIfInBounds (g+k+x.2) x.1) (arrOf m) r.toList.zipIdx))=none:=U.f.trans u.failed;rw[hf];have B:arrOf m=arrOf st:=U.a.trans t
  have sl:((arrOf st).extract (g+k) f).toList++((arrOf st).extract f (f+l)).toList=((arrOf st).toList.drop (g+k)).take (na-k+l):=by rw[cY,cY,List.take_add,List.drop_drop,show f+l-f=l by lia,show g+k+(na-k)=f by lia,show f-(g+k)=na-k by lia]
  have pr:r.toList.Perm (((arrOf st).toList.drop (g+k)).take (na-k+l)):=by rw[←sl];exact mg
  have rl:r.toList.length=na-k+l:=by rw[pr.length_eq,acH,List.length_drop,aaG];lia
  have lst:=Je (g+k) r.toList 0 (arrOf st) LZ;rw[rl,Nat.add_zero] at lst;have a0:(arrOf st).toList.length=(arrOf st).size:=aaG
  have V:∀j,(List.foldl (λa x=>a.setIfInBounds (g+k+x.2) x.1) (arrOf m) r.toList.zipIdx)[j]?=if g+k<=j/\j<f+l then r.toList[j-(g+k)]? else (arrOf st)[j]? :=λj=>by
   rw[B,←Array.getElem?_toList,lst]
   by_cases a:j<g+k
   .rw[adp LZ,aa6 (by rw[acH];lia),List.getElem?_take_of_lt a,Array.getElem?_toList]
   .rw[aa5 (by rw[acH];lia),acH,Nat.min_eq_left LZ]
    by_cases b:j<f+l
    .rw[adq LZ,aa6 LZ]
    .rw[adp LZ,aa5 LZ,List.getElem?_drop,Array.getElem?_toList]
     congr 1;lia
  have S:SB κ a₀ K (setArr m (List.foldl (λa x=>a.setIfInBounds (g+k+x.2) x.1) (arrOf m) r.toList.zipIdx)):=by refine⟨?_,U.k.trans u.kind,hf,U.p.trans u.pend⟩;refine Array.Perm.trans ?_ H.perm;rw[←B];exact UW (n:=na-k+l) (by rw[B];lia) (by rw[B];exact pr)
  refine aaF (h _ S (λj hj=>(V j).trans (adp LZ)) λi j a b c=>?_);show R rk (List.foldl _ _ _) i<=R rk (List.foldl _ _ _) j;have o:∀j,¬(g+k<=j/\j<f+l)->R rk (List.foldl (λa x=>a.setIfInBounds (g+k+x.2) x.1) (arrOf m) r.toList.zipIdx) j=R rk (arrOf st) j:=λj q=>kI ((V j).trans (adp q))
  have G:∀j,g+k<=j->j<f+l -> ∃x,r.toList[j-(g+k)]?=some x/\R rk (List.foldl (λa x=>a.setIfInBounds (g+k+x.2) x.1) (arrOf m) r.toList.zipIdx) j=rk x.1:=λj q1 q2=>by obtain⟨x,ex⟩:∃x,r.toList[j-(g+k)]?=some x:=⟨_,aal LZ⟩;refine⟨x,ex,?_⟩;unfold R;rw[(V j).trans (adq ⟨q1,q2⟩),ex]
  have src:∀x,x∈r.toList -> ∃j,g+k<=j/\j<f+l/\R rk (arrOf st) j=rk x.1:=λx hx=>by obtain⟨j,j1,W,j3⟩:=jK (rk:=rk) (pr.mem_iff.mp hx);exact⟨g+k+j,LZ,LZ,j3⟩
  clear V S lst sl pr a0 hf
  by_cases i1:i<g+k
  .rw[o i LZ]
   by_cases j1:j<g+k
   .rw[o j LZ];exact F i j a b LZ
   .by_cases W:j<f+l
    .obtain⟨x,ex,e3⟩:=G j LZ W
     obtain⟨j0,q1,q2,q3⟩:=src x (aaN ex);rw[e3,←q3];exact F1 i a i1 j0 q1 LZ
    .rw[o j LZ];exact F1 i a i1 j LZ c
  .by_cases i2:i<f+l
   .obtain⟨x,ex,e3⟩:=G i LZ i2
    rw[e3]
    by_cases W:j<f+l
    .obtain⟨y,ey,e4⟩:=G j LZ W
     rw[e4]
     by_cases z:i=j
     .subst z;rw[ex] at ey;cases ey;exact aav _
     .obtain⟨x1,x2⟩:=aam.mp ex
      obtain⟨y1,y2⟩:=aam.mp ey;have:=List.pairwise_iff_getElem.mp Xu _ _ x1 y1 LZ;rwa [x2,y2] at this
    .obtain⟨i0,q1,q2,q3⟩:=src x (aaN ex)
     rw[o j LZ,←q3];exact F2 i0 LZ q2 j LZ c
   .rw[o i LZ,o j LZ]
    exact D i j LZ b c
 exact bB (λ_=>aaE (Ii C u.kind (sub _ _) (sub _ _) LZ LZ bo T)) (λ_=>aaE (Ij C u.kind (sub _ _) (sub _ _) LZ LZ bo T))
def Runs(rk:Value->Nat)(xs:Array Keyed):List (Nat×Nat×Nat)->Nat->Nat->Prop
 | [],a,e=>a=e
 | (s,n,_)::r,a,e=>s=a/\1<=n/\Seg rk xs a (a+n)/\Runs rk xs r (a+n) e
theorem Runs.le{xs:Array Keyed}:∀{l:List (Nat×Nat×Nat)}{a e:Nat},Runs rk xs l a e->a+l.length<=e
 | [],a,e,h=>Nat.le_of_eq h
 | (s,n,_)::r,a,e,h=>by have:=Runs.le h.2.2.2;have:=h.2.1;rw[ac8];lia
theorem Runs.app{xs:Array Keyed}{r:List (Nat×Nat×Nat)}:∀{l:List (Nat×Nat×Nat)}{a e:Nat},Runs rk xs (l++r) a e ↔ ∃m,Runs rk xs l a m/\Runs rk xs r m e
 | [],a,e=>⟨λh=>⟨a,Z,h⟩,λ⟨m,h1,b⟩=>(show a=m from h1)▸b⟩
 | (s,n,_)::l,a,e=>⟨λ⟨h1,b,f,d⟩=>(Runs.app.mp d).elim λm ⟨g,c⟩=>⟨m,⟨h1,b,f,g⟩,c⟩,λ⟨m,⟨h1,b,f,d⟩,c⟩=>⟨h1,b,f,Runs.app.mpr ⟨m,d,c⟩⟩⟩
def Seg.congr{xs ys:Array Keyed}{lo:Nat}(h:Seg rk xs lo hi)(g:∀j,lo<=j->j<hi->ys[j]?=xs[j]?):Seg rk ys lo hi:=λi j a b c=>by rw[kI (g i a LZ),kI (g j LZ c)];exact h i j a b c
theorem Runs.congr{xs ys:Array Keyed}:∀{l:List (Nat×Nat×Nat)}{a e:Nat},Runs rk xs l a e->(∀j,a<=j->j<e->ys[j]?=xs[j]?)->Runs rk ys l a e
 | [],a,e,h,_=>h
 | (s,n,_)::r,a,e,⟨h1,d,c,b⟩,g=>by have le:=Runs.le b;exact⟨h1,d,c.congr λj x y=>g j x LZ,Runs.congr b λj x y=>g j LZ y⟩
theorem Runs.modify{xs:Array Keyed}{f:Nat×Nat×Nat->Nat×Nat×Nat}(k:∀x,(f x).1=x.1/\(f x).2.1=x.2.1)(l:List (Nat×Nat×Nat)):∀(i a e:Nat),Runs rk xs l a e->Runs rk xs (l.modify i f) a e:=by
 induction l with
 | nil=>intro i a e h;cases i<;>exact h
 | cons t r j=>
   intro i a e h;obtain⟨g,d,c,b⟩:=h;cases i with
   | zero=>
     rw[List.modify_zero_cons];obtain⟨q1,q2⟩:=k t;exact⟨q1.trans g,by rw[q2];exact d,by rw[q2];exact c,by rw[q2];exact b⟩
   | succ i=>
     rw[List.modify_succ_cons];exact⟨g,d,c,j i _ _ b⟩
def RJ(κ:SortKind)(a₀:Array Keyed)(rk:Value->Nat)(e:Nat)(st:SortSt):Prop:=SB κ a₀ (pendingOf st) st/\Runs rk (arrOf st) (pendingOf st).toList 0 e
def zQ{Q:Bool->SortSt->Prop}(C:wg prog w A s κ a₀ rk)(H:RJ κ a₀ rk e st)(he:e<=a₀.size)(hi:i+1<(pendingOf st).size)(h:∀st',RJ κ a₀ rk e st'->(pendingOf st').size+1=(pendingOf st).size->(∀j,e<=j->(arrOf st')[j]?=(arrOf st)[j]?)->Q true st'):wpS (model prog w) A E s (mergeAt' i) Q st:=by
 obtain⟨u,o⟩:=H;have t:(pendingOf st).toList.length=(pendingOf st).size:=aaG;generalize pendingOf st=a at u o hi t h
 obtain⟨pre,⟨c,na,k⟩,⟨M,l,g⟩,post,d,f⟩:∃pre p q post,a.toList=pre++p::q::post/\pre.length=i:=⟨a.toList.take i,a.toList[i],a.toList[i+1],a.toList.drop (i+2),by rw[←List.drop_eq_getElem_cons,←List.drop_eq_getElem_cons,List.take_append_drop],by rw[acH];lia⟩
 rw[d] at o;obtain⟨m,B,L,F,g1,K,D,g2,r⟩:=Runs.app.mp o;subst L;subst K;have G:=Runs.le r;have J:a[i]?=some (c,na,k):=by rw[←Array.getElem?_toList,d,aa5 LZ,f,Nat.sub_self];rfl
 have I:a[i+1]?=some (c+na,l,g):=by rw[←Array.getElem?_toList,d,aa5 LZ,f,show i+1-i=1 by lia];rfl
 refine Ik C u J I rfl F D LZ g1 g2 λst' b n z=>?_
 have v:((a.setIfInBounds i (c,na+l,k)).eraseIdxIfInBounds (i+1)).toList=pre++(c,na+l,k)::post:=by rw[Array.toList_eraseIdxIfInBounds,Array.toList_setIfInBounds,d,List.set_append_right _ _ LZ,f,Nat.sub_self,List.eraseIdx_append_of_length_le LZ,f,show i+1-i=1 by lia];rfl
 refine h st' ?_ ?_ λj N=>n j (.inr LZ)
 .unfold RJ
  rw[b.pend,v];exact⟨b,Runs.app.mpr ⟨c,B.congr λj _ y=>n j (.inl y),Z,LZ,by rw[←Nat.add_assoc];exact z,by rw[←Nat.add_assoc];exact r.congr λj x _=>n j (.inr x)⟩⟩
 .rw[b.pend,←aaG,v,←t,d]
  simp only[aa1,ac8];lia
def Nh{Q:ForInStep (Option Unit×Nat)->SortSt->Prop}(a:RJ κ a₀ rk lo st)(b:1<=n)(hs:Seg rk (arrOf st) lo (lo+n))(h:∀st',RJ κ a₀ rk (lo+n) st'->Q (.yield (none,lo+n)) st'):wpS (model prog w) A E s (srP lo n) Q st:=by unfold srP;refine aaE (wpS_modify (aaF (h _ ⟨⟨a.1.perm,a.1.kind,a.1.failed,Z⟩,?_⟩)));show Runs rk (arrOf st) ((pendingOf st).push _).toList _ _;rw[Array.toList_push];exact Runs.app.mpr ⟨lo,a.2,Z,b,hs,Z⟩
def Ni{Q:ForInStep (Option Unit×Nat)->SortSt->Prop}(C:wg prog w A s κ a₀ rk)(o:RJ κ a₀ rk lo st)(k:lo<=a₀.size)(m:1<=n)(hs:Seg rk (arrOf st) lo (lo+n))(h:∀st',RJ κ a₀ rk (lo+n) st'->Q (.yield (none,lo+n)) st'):wpS (model prog w) A E s (srM a₀.size lo n) Q st:=by
 unfold srM;refine aaE (wpS_get ?_);cases hb:(pendingOf st).back? with
 | none=>exact Nh o m hs h
 | some t=>
   obtain⟨l,d,r⟩:=t;dsimp only;generalize power' a₀.size (2*l+d) (2*l+d+d+n) a₀.size=i;refine aaE (wpS_mono (wpS_forRange (I:=λ_ c a=>c=(none,())/\RJ κ a₀ rk lo a/\Seg rk (arrOf a) lo (lo+n)) (Q:=λc a=>c=(none,())/\RJ κ a₀ rk lo a/\Seg rk (arrOf a) lo (lo+n)) ?_ (λ_ _ z=>z) ⟨Z,o,hs⟩) ?_)
   .rintro y c a _ _ ⟨rfl,b,e⟩
    unfold srC;refine aaE (wpS_get ?_);cases hg:(if (pendingOf a).size>1 then (pendingOf a)[(pendingOf a).size-2]? else none) with
    | none=>exact aaF ⟨Z,b,e⟩
    | some t=>
      have gt:(pendingOf a).size>1:=by
       by_cases g:(pendingOf a).size>1
       .exact g
       .rw[adp g] at hg;cases hg
      exact bB (λ_=>aaF ⟨Z,b,e⟩) (λ_=>aaE (zQ C b k LZ λu q _ p=>aaF ⟨Z,q,e.congr λj x _=>p j x⟩))
   .rintro c a ⟨rfl,b,e⟩
    refine aaE (wpS_modify (Nh ⟨⟨b.1.perm,b.1.kind,b.1.failed,Z⟩,?_⟩ m e h));show Runs rk (arrOf a) ((pendingOf a).modify _ _).toList _ _;rw[Array.toList_modify];exact Runs.modify (f:=λx=>(x.1,x.2.1,i)) (λx=>⟨Z,Z⟩) _ _ _ _ b.2
theorem wpS_sortRuns{Q:Unit->SortSt->Prop}(C:wg prog w A s κ a₀ rk)(t:SB κ a₀ #[] st)(R:2<=a₀.size)(h:∀st',(arrOf st').Perm a₀->failedOf st'=none->Seg rk (arrOf st') 0 a₀.size->Q () st'):wpS (model prog w) A E s sortRuns' Q st:=by
 rw[Tip.sortRuns'_eq];refine aaE (wpS_get ?_);rw[t.size];generalize minRun' a₀.size a₀.size 0=M;refine aaE (wpS_mono (wpS_forRange (I:=λx c st'=>∃b,c=(none,b)/\x<=b/\b<=a₀.size/\RJ κ a₀ rk b st') (Q:=λc st'=>c=(none,a₀.size)/\RJ κ a₀ rk a₀.size st') ?_ ?_ ⟨0,Z,aav _,Nat.zero_le _,by unfold RJ;rw[t.pend];exact⟨t,Z⟩⟩) ?_)
 .rintro x c st' _ P ⟨b,rfl,B,n,f⟩
  dsimp only;unfold srB;refine bB (λge=>?_) (λge=>?_)
  .have e:b=a₀.size:=by lia
   subst e;exact aaF ⟨Z,f⟩
  refine aaE (wpS_countRun C LZ LZ f.1 λm o i z u N g2=>?_);have K:RJ κ a₀ rk b o:=by unfold RJ;rw[i.pend];exact⟨i,f.2.congr λj _ y=>z j y⟩
  refine bB (λlt=>?_) (λ_=>Ni C K n u g2 λk J=>⟨b+m,Z,LZ,LZ,J⟩);refine aaE (wpS_lift (wpAny_rule ⟨Z,aaE (Il C LZ u LZ i g2 λk l F g3=>?_)⟩));have r:RJ κ a₀ rk b k:=by unfold RJ;rw[l.pend];exact⟨l,(f.2.congr λj _ y=>z j y).congr λj _ y=>F j y⟩
  exact Ni C r n LZ g3 λa d=>⟨_,Z,LZ,LZ,d⟩
 .rintro c st' ⟨b,rfl,B,n,f⟩
  have e:b=a₀.size:=by lia
  subst e;exact⟨Z,f⟩
 .rintro c st' ⟨rfl,f⟩
  dsimp only;have le:=Runs.le f.2;rw[aaG] at le;refine aaE (wpS_mono (wpS_forRange (I:=λy c a=>c=(none,())/\RJ κ a₀ rk a₀.size a/\(pendingOf a).size<=max 1 (a₀.size-y)) (Q:=λc a=>c=(none,())/\RJ κ a₀ rk a₀.size a/\(pendingOf a).size<=1) ?_ ?_ ⟨Z,f,LZ⟩) ?_)
  .rintro y c a _ O ⟨rfl,d,p⟩
   unfold srF;refine aaE (wpS_get (bB (λv=>aaF ⟨Z,d,v⟩) (λv=>aaE (zQ C d (aav _) ?_ λS H L _=>aaF ⟨Z,H,LZ⟩))));have q:∀(c:Prop)[Decidable c],(if c then (pendingOf a).size-2-1 else (pendingOf a).size-2)+1<(pendingOf a).size:=λc _=>by split<;>lia
   exact q _
  .rintro c a ⟨rfl,d,p⟩
   exact⟨Z,d,LZ⟩
  .rintro c a ⟨rfl,d,p⟩
   refine aaF (h a d.1.perm d.1.failed ?_);have D:(pendingOf a).toList.length<=1:=by rw[aaG];exact p
   match hl:(pendingOf a).toList,D,d.2 with
   | [],_,G=>have:0=a₀.size:=G;lia
   | [(_,m,_)],_,⟨_,_,g,e⟩=>
     have e:0+m=a₀.size:=e;rw[e] at g;exact g
end
section
variable{prog:Program}{κ:SortKind}
def abT{vs:zzt}{xs:Array Keyed}(f:xs.Perm (pairsOf vs))(hs:Seg rk xs 0 (pairsOf vs).size):(xs.map (·.2)).toList.Perm vs/\(xs.map (·.2)).toList.Pairwise (λx y=>rk x<=rk y):=by
 have g:xs.toList.Perm (vs.zip vs):=by rw[←pairsOf_toList];exact Array.perm_iff_toList_perm.mp f
 have b:∀p,p∈xs.toList->p.1=p.2:=λp a=>(mem_zip_self (g.mem_iff.mp a)).1
 have e:(xs.map (·.2)).toList=xs.toList.map (·.1):=by rw[Array.toList_map];exact List.map_congr_left λp a=>(b p a).symm
 rw[e];constructor
 .have:=g.map Prod.fst
  rwa [List.map_fst_zip (aav _)] at this
 .rw[List.pairwise_map,List.pairwise_iff_getElem]
  intro i j h c d;rw[aaG] at h c;have:=hs i j (Nat.zero_le _) (adn d) (by rw[←f.size_eq];exact c);rw[jf h,jf c] at this;simpa using this
theorem Dm{vs:zzt}{P:PySem.Fin->Shared->Prop}(m:s.heap.get? a=some (seqObj "list" vs.toArray n))(p:vs.length<=sizeLine)(z:2<=vs.length -> ∀h':Heap,(∀b o,b≠a->s.heap.get? b=some o->h'.get? b=some o)->(∀(Q:SortKind->Shared->Prop)(E:zzx),Q κ {s with heap:=h'}->wpAny (model prog w) A (keyKind' vs.toArray) Q E {s with heap:=h'})/\wg prog w A {s with heap:=h'} κ (pairsOf vs) rk)(h:∀out:List Value,out.Perm vs->out.Pairwise (λx y=>rk x<=rk y)->P (.done (.ret .none)) {s with heap:=sortedHeap s.heap a vs out.toArray}):
 wpAny (model prog w) A (Builtin.«list.sort» ⟨[.ref a],[]⟩) P E s:=by
 rw[list_sort_plain];have K:a<s.heap.objs.size:=aas m;refine aaB (listItems_at m rfl ?_);refine aaB (listUpdate_at m rfl ?_ (by rw[aaX];exact p) (Nat.zero_le _));obtain⟨r,g⟩:∃r,(s.heap.update a (Obj.mapSeq λ_=> #[])).get? a=some (seqObj "list" #[] r):=⟨_,get?_update_seq m (λ_=> #[])⟩;refine aaB (seqEpoch_at g rfl ?_);refine aaB (wpAny_newTuple ?_ (by show vs.length<=_;exact p));refine aaB (wpAny_newList ?_ (Nat.zero_le _));refine wpAny_holding ?_
 have keep:∀b o,b≠a->s.heap.get? b=some o->(((s.heap.update a (Obj.mapSeq λ_=> #[])).push (seqObj "tuple" vs.toArray 0)).push (seqObj "list" #[] 0)).get? b=some o:=λb o t e=>by refine aaq _ (aaq _ ?_);rw[Heap.get?_update_ne _ _ _ _ t];exact e
 have d:(((s.heap.update a (Obj.mapSeq λ_=> #[])).push (seqObj "tuple" vs.toArray 0)).push (seqObj "list" #[] 0)).get? a=some (seqObj "list" #[] r):=aaq _ (aaq _ g);show wpAny (model prog w) A _ P E {s with heap:=((s.heap.update a (Obj.mapSeq λ_=> #[])).push (seqObj "tuple" vs.toArray 0)).push (seqObj "list" #[] 0)};dsimp only;have v:vs.toArray.size=vs.length:=by simp
 have k:∀c:SortSt,(arrOf c).Perm (pairsOf vs)->Seg rk (arrOf c) 0 (pairsOf vs).size ->P (.done (.ret .none)) {s with heap:=sortedHeap s.heap a vs ((arrOf c).map (·.2))}:=by intro c l q;obtain⟨F,f⟩:=abT l q;have:=h _ F f;rwa [Array.toArray_toList] at this
 by_cases f:vs.toArray.size<2
 .rw[adq f,adq f]
  refine aaB (aaD ?_);rw[StateT.run_pure];refine aaB (aaD ?_);dsimp only;refine aaB (seqEpoch_at d rfl ?_);refine aaB (listUpdate_at d rfl ?_ (Nat.zero_le _) (by rw[Array.size_map];show (pairsOf vs).size<=_;rw[pairsOf_size];lia));simp only[bne_self_eq_false,Bool.false_eq_true,if_false];refine aaD (k (SortSt.mk' general' (vs.toArray.zip vs.toArray) #[] 7 none) (Array.Perm.refl _) ?_);intro i j _ C B;have:i=j:=by rw[pairsOf_size] at B;lia
  subst this;exact aav _
 .rw[adp f,adp f]
  obtain⟨u,kc⟩:=z LZ _ keep;refine aaB (u _ _ ?_)
  refine aaB (wpAny_mono (wpS_sortRuns (a₀:=pairsOf vs) (rk:=rk) (st:=SortSt.mk' κ (vs.toArray.zip vs.toArray) #[] 7 none)
   (Q:=λ_ c=>(arrOf c).Perm (pairsOf vs)/\failedOf c=none/\Seg rk (arrOf c) 0 (pairsOf vs).size)
   kc ⟨Array.Perm.refl _,Z,Z,Z⟩ (by rw[pairsOf_size];lia) λc I H G=>⟨I,H,G⟩) ?_ λ_ _ e=>e)
  rintro⟨⟨⟩,c⟩ J ⟨rfl,l,D,q⟩;dsimp only;refine aaB (seqEpoch_at d rfl ?_);refine aaB (listUpdate_at d rfl ?_ (Nat.zero_le _) (adl (Nat.le_of_eq ((Array.size_map ..).trans (l.size_eq.trans (pairsOf_size _)))) (Nat.le_succ_of_le p)));rw[D];simp only[bne_self_eq_false,Bool.false_eq_true,if_false];exact aaD (k c l q)
theorem KY{l:Addr}{vs:zzt}(u:s.heap.IsList l vs.toArray)(i:vs.length<=sizeLine)(v:2<=vs.length -> ∀h':Heap,(∀b o,s.heap.get? b=some o->h'.get? b=some o)->(∀(Q:SortKind->Shared->Prop)(E:zzx),Q κ {s with heap:=h'}->wpAny (model prog w) A.in1.in1 (keyKind' vs.toArray) Q E {s with heap:=h'})/\wg prog w A.in1.in1 {s with heap:=h'} κ (pairsOf vs) rk)(h:∀(h':Heap)(D:Addr)(c:Nat)(out:zzt),(∀b o,s.heap.get? b=some o->h'.get? b=some o)->s.heap.objs.size<=D->h'.get? D=some (seqObj "list" out.toArray c)->out.Perm vs->out.Pairwise (λx y=>rk x<=rk y)->Q (.ref D) {s with heap:=h'}):
 wpAny (model prog w) A (call (.builtin "sorted") [.ref l]) Q E s:=by
 refine Calls.call_function_entry kind_sorted plain_sorted entry_sorted (args_sorted1 _) ?_;unfold Builtin.«sorted»;refine aaB (m:=checkCount "sorted" 1 1 _) (aaD ?_);refine aaB (collect_list u ?_ i);refine aaB (wpAny_newList ?_ i)
 have d:((s.heap.push (seqObj "list" #[] 0)).update s.heap.objs.size (Obj.mapSeq (· ++ vs.toArray))).objs.size=s.heap.objs.size+1:=by rw[Heap.size_update,size_push']
 have a:(((s.heap.push (seqObj "list" #[] 0)).update s.heap.objs.size (Obj.mapSeq (· ++ vs.toArray))).push (seqObj "list" vs.toArray 0)).get? (s.heap.objs.size+1)=some (seqObj "list" vs.toArray 0):=by rw[←d];exact aar _ rfl
 have keep:∀b o,s.heap.get? b=some o->(((s.heap.push (seqObj "list" #[] 0)).update s.heap.objs.size (Obj.mapSeq (· ++ vs.toArray))).push (seqObj "list" vs.toArray 0)).get? b=some o:=λb o q=>by have f:b<s.heap.objs.size:=aas q;rw[Heap.get?_push_ne _ _ _ (by rw[d];exact aa7 (Nat.lt_succ_of_lt f)),Heap.get?_update_ne _ _ _ _ (aa7 f),Heap.get?_push_ne _ _ _ (aa7 f)];exact q
 show wpAny _ _ _ _ _ {s with heap:=((s.heap.push (seqObj "list" #[] 0)).update s.heap.objs.size (Obj.mapSeq (· ++ vs.toArray))).push (seqObj "list" vs.toArray 0)};rw[d];generalize ((s.heap.push (seqObj "list" #[] 0)).update s.heap.objs.size (Obj.mapSeq (· ++ vs.toArray))).push (seqObj "list" vs.toArray 0)=g at keep a ⊢;have nD:∀b o,s.heap.get? b=some o->b≠s.heap.objs.size+1:=λb o e=>aa7 (Nat.lt_succ_of_lt (aas e));refine aaB (wpAny_holding (wpAny_call_entry slot_list_sort ⟨_,a,Z⟩ entry_list_sort (Dm (s:={s with heap:=g}) a i (λz h' t=>v z h' λb o e=>t b o (nD b o e) (keep b o e)) λout r p=>⟨_,Z,?_⟩) (args_list_sort _)));refine aaD ⟨_,Z,?_⟩;obtain⟨n,k⟩:∃n,(g.update (s.heap.objs.size+1) (Obj.mapSeq λ_=> #[])).get? (s.heap.objs.size+1)=some (seqObj "list" #[] n):=⟨_,get?_update_seq a (λ_=> #[])⟩;have j:(((g.update (s.heap.objs.size+1) (Obj.mapSeq λ_=> #[])).push (seqObj "tuple" vs.toArray 0)).push (seqObj "list" #[] 0)).get? (s.heap.objs.size+1)=some (seqObj "list" #[] n):=aaq _ (aaq _ k);refine h (sortedHeap g (s.heap.objs.size+1) vs out.toArray) _ _ out (λb o e=>?_) (Nat.le_succ _) (by unfold sortedHeap;exact get?_update_seq j (λ_=>out.toArray)) r p;unfold sortedHeap;rw[Heap.get?_update_ne _ _ _ _ (nD b o e)];refine aaq _ (aaq _ ?_);rw[Heap.get?_update_ne _ _ _ _ (nD b o e)];exact keep b o e
end
theorem Fb{α:Type}{p q:α->Bool}{u:α}:∀{l:List α},u∈l->q u=true->p u=false->(∀x,p x=true->q x=true)->l.countP p<l.countP q
 | [],a,_,_,_=>by simp at a
 | x::l,a,b,c,hi=>by
   have mono:l.countP p<=l.countP q:=List.countP_mono_left λx _=>hi x;rw[List.countP_cons,List.countP_cons];rcases List.mem_cons.mp a with rfl|a
   .rw[b,c];simp;lia
   .have:=Fb a b c hi
    cases e:p x with
    | true=>rw[hi x e];simp;lia
    | false=>simp;lia
def qN{α:Type}(L:α->α->Bool)(vs:List α)(v:α):Nat:=vs.countP λu=>L u v
structure Swo{α:Type}(L:α->α->Bool):Prop where
 irr:∀a,L a a=false
 tr:∀a b c,L a b=true->L b c=true->L a c=true
 ntr:∀a b c,L a b=false->L b c=false->L a c=false
def Oj{α:Type}{L:α->α->Bool}(S:Swo L){vs:List α}{u v:α}(b:u∈vs):decide (qN L vs u<qN L vs v)=L u v:=by
 cases e:L u v with
 | true=>exact aaO (Fb b e (S.irr u) λx a=>S.tr x u v a e)
 | false=>
   refine aaP λz=>?_
   have:qN L vs v<=qN L vs u:=List.countP_mono_left λx _ a=>by
    cases e':L x u with
    | true=>rfl
    | false=>rw[S.ntr x u v e' e] at a;cases a
   lia
def Yx{α:Type}{L:α->α->Bool}(S:Swo L){vs:List α}{u v:α}(a:v∈vs)(h:qN L vs u<=qN L vs v):L v u=false:=by have:=Oj S (u:=v) (v:=u) a;rw[←this];exact aaP LZ
def iM:List Int->List Int->Bool
 | _,[]=>false
 | [],_::_=>true
 | a::as,b::bs=>if a=b then iM as bs else decide (a<b)
def Jw(a:List Int):iM a []=false:=by cases a<;>rfl
theorem Jx:∀a,iM a a=false
 | []=>rfl
 | a::as=>by unfold iM;rw[adq rfl];exact Jx as
theorem Pb:∀a b c,iM a b=true->iM b c=true->iM a c=true
 | a,[],_,h,_=>by rw[Jw] at h;cases h
 | [],_::_,[],_,h=>by cases h
 | [],_::_,_::_,_,_=>rfl
 | _::_,_::_,[],_,h=>by cases h
 | a::as,b::bs,c::cs,h1,d=>by
   unfold iM at h1 d ⊢
   by_cases f:a=b
   .rw[adq f] at h1
    by_cases e:b=c
    .rw[adq e] at d
     rw[adq (f.trans e)];exact Pb as bs cs h1 d
    .rw[adp e] at d
     rw[adp (f▸e),f];exact d
   .rw[adp f] at h1
    have h1:=aaQ h1
    by_cases e:b=c
    .rw[←e,adp f];exact aaO h1
    .rw[adp e] at d
     have d:=aaQ d;rw[adp LZ];exact aaO LZ
theorem Jv:∀a b c,iM a b=false->iM b c=false->iM a c=false
 | a,_,[],_,_=>Jw a
 | [],[],_::_,_,h=>by cases h
 | [],_::_,_::_,h,_=>by cases h
 | _::_,[],_::_,_,h=>by cases h
 | a::as,b::bs,c::cs,h1,d=>by
   unfold iM at h1 d ⊢
   by_cases f:a=b
   .rw[adq f] at h1
    by_cases e:b=c
    .rw[adq e] at d
     rw[adq (f.trans e)];exact Jv as bs cs h1 d
    .rw[adp e] at d
     rw[adp (f▸e),f];exact d
   .rw[adp f] at h1
    have h1:=of_decide_eq_false h1
    by_cases e:b=c
    .rw[←e,adp f];exact aaP h1
    .rw[adp e] at d
     have d:=of_decide_eq_false d;rw[adp LZ];exact aaP LZ
theorem Ju:∀a b,iM a b=false->iM b a=false->a=b
 | [],[],_,_=>rfl
 | [],_::_,h,_=>by cases h
 | _::_,[],_,h=>by cases h
 | a::as,b::bs,h1,c=>by
   unfold iM at h1 c
   by_cases e:a=b
   .rw[adq e] at h1
    rw[adq e.symm] at c;rw[e,Ju as bs h1 c]
   .rw[adp e] at h1
    rw[adp (Ne.symm e)] at c;have h1:=of_decide_eq_false h1;have c:=of_decide_eq_false c;lia
def N_{α:Type}(key:α->List Int):Swo λa b=>iM (key a) (key b):=⟨λa=>Jx _,λa b c=>Pb _ _ _,λa b c=>Jv _ _ _⟩
end Tim
namespace L2
open PySem PySem.Spec PyProof.Rows PySem.W
def keyOf(h:Heap):Value->List Int
 | .int n _=>[n]
 | .ref a=>match h.get? a with
   | some o=>match o.data with
     | .seq xs _=>xs.toList.map numOf
     | _=>[]
   | none=>[]
 | _=>[]
theorem Pa{prog:Program}{w:World}{A:Around}{s:Shared}{Q:Bool->Shared->Prop}:∀(xs ys:zzt)(ns ms:List Int)(i:Nat),IntsAre xs ns->IntsAre ys ms -> ∀(fin:Bool),(ns.length=ms.length->fin=false)->ns.length=ms.length->Q (Tim.iM ns ms) s->KatLex prog w A true fin Q (xs.zip ys) i s
 | _,_,[],[],i,.nil,.nil,fin,c,_,h=>by show Q fin s;rw[c rfl];exact h
 | _,_,_::_,[],_,_,_,_,_,a,_=>by cases a
 | _,_,[],_::_,_,_,_,_,_,a,_=>by cases a
 | _,_,n::ns,m::ms,i,.cons _ t f,.cons _ u d,fin,c,a,h=>by
   rw[List.zip_cons_cons];refine kat_cons (wpAny_eqBool_int ?_);have b:ns.length=ms.length:=by simpa using a
   by_cases e:n=m
   .subst e
    rw[show (n==n)=true by simp];refine kat_yes (Pa _ _ ns ms (i+1) f d fin (λz=>c (by simpa using z)) b ?_);unfold Tim.iM at h;rwa [adq rfl] at h
   .rw[show (n==m)=false by simpa using e]
    unfold Tim.iM at h;rw[adp e] at h;refine kat_no ?_;cases (true&&i==0) with
    | true=>exact oneLt_int h
    | false=>exact kat_one _ _ (lt_int (show W.BoolBack Q (.bool (decide (n<m))) s from h))
def sV{h:Heap}(c:IsTup h a its.toArray)(hi:IntsAre its ns):keyOf h (.ref a)=ns:=by
 obtain⟨o,e,_,n,d⟩:=c
 show (match h.get? a with
  | some o=>match o.data with
    | .seq b _=>b.toList.map numOf
    | _=>[]
  | none=>[])=ns
 rw[e];dsimp only;rw[d];dsimp only;exact hi.nums
def Qj(h:Heap)(k:Nat)(vs:zzt):Prop:=∀v∈vs,∃a its ns,v=.ref a/\IsTup h a its.toArray/\IntsAre its ns/\ns.length=k
def TJ{prog:Program}{vs:zzt}(T:Qj h0 k vs)(l:∀b o,h0.get? b=some o->s.heap.get? b=some o):
 Tim.wg prog w A s (tuples' true) (pairsOf vs) (Tim.qN (λa b=>Tim.iM (keyOf h0 a) (keyOf h0 b)) vs):=by
 refine⟨λp n q m E Q h=>?_⟩;rw[pairsOf_toList] at n m;obtain⟨_,mp⟩:=mem_zip_self n;obtain⟨_,r⟩:=mem_zip_self m;rw[Tim.Oj (Tim.N_ (keyOf h0)) mp] at h;obtain⟨a,d,j,t,i,f,I⟩:=T _ mp;obtain⟨b,c,ms,eq,g,e,H⟩:=T _ r;rw[t,eq] at h ⊢;rw[sV i f,sV g e] at h;obtain⟨D,v,ca,G,B⟩:=i;obtain⟨C,u,L,F,db⟩:=g;have K:d.length=j.length:=f.length;have J:c.length=ms.length:=e.length;refine kat_lt (l _ _ v) B (l _ _ u) db ?_;have y:d.toArray.toList=d:=by simp
 have x:c.toArray.toList=c:=by simp
 rw[y,x];exact Pa d c j ms 0 f e _ (λz=>aaP (by rw[aaX,aaX];lia)) LZ h
theorem yc{q p:Heap}{k:Nat}(A:1<=k)(l:∀b o,q.get? b=some o->p.get? b=some o):∀{vs:zzt},Qj q k vs -> ∃g,KatTups p vs g/\g.length=vs.length /\ ∀f∈g,∃n t,f=Value.int n t
 | [],_=>⟨[],trivial,Z,λ_ z=>adt z MZ⟩
 | v::vs,T=>by
   obtain⟨g,t1,s,t3⟩:=yc A l (vs:=vs) λu y=>T u (abz _ y);obtain⟨a,i,w,rfl,⟨o,e,c,n,d⟩,x,h⟩:=T v (List.mem_cons_self ..)
   match i,w,x,h,d with
   | _,_,.nil,h,d=>simp at h;lia
   | _,_,.cons m t r,h,d=>
     refine⟨_::g,KatTups.cons (l _ _ e) c d rfl t1,by simp[s],λf j=>?_⟩;rcases List.mem_cons.mp j with rfl|j
     .exact⟨_,_,Z⟩
     .exact t3 f j
def Qw{prog:Program}{vs:zzt}{Q:SortKind->Shared->Prop}(d:1<=k)(T:Qj h0 k vs)(a:2<=vs.length)(c:∀b o,h0.get? b=some o->s.heap.get? b=some o)(h:Q (tuples' true) s):wpAny (model prog w) A (keyKind' vs.toArray) Q E s:=by obtain⟨f,t1,e,t3⟩:=yc d c T;refine kat_kind (T:= .type "int") t1 LZ (λv a=>?_) rfl h;obtain⟨n,t,rfl⟩:=t3 v a;exact .now
def Qo{out:zzt}(r:Vals ys us)(p:out.Perm us):∃zs,Vals zs out/\zs.Perm ys:=by
 induction p generalizing ys with
 | nil=>cases r;exact⟨[],.nil,.refl _⟩
 | cons x p m=>
   cases r with
   | cons c d=>
     obtain⟨zs,b,a⟩:=m d;exact⟨_::zs,.cons c b,.cons _ a⟩
 | swap x y l=>
   cases r with
   | cons c d=>
     cases d with
     | cons j k=>exact⟨_,.cons j (.cons c k),.swap _ _ _⟩
 | trans p q f e=>
   obtain⟨zs,b,a⟩:=e r;obtain⟨g,i,h⟩:=f b;exact⟨g,i,h.trans a⟩
theorem Es:∀{ns:List Int}{vs:zzt},Vals (ns.map V.int) vs->IntsAre vs ns
 | [],_,.nil=> .nil
 | n::ns,_,.cons ⟨t,e⟩ r=>by subst e;exact .cons n t (Es r)
theorem DR{R:Value->Value->Prop}{S:V->V->Prop}(a:∀x y u v,RelV x u->RelV y v->R u v->S x y):∀{zs:List V}{out:zzt},Vals zs out->out.Pairwise R->zs.Pairwise S
 | _,_,.nil,_=> .nil
 | _,_,.cons c rt,p=>by rw[List.pairwise_cons] at p;refine .cons (λy d=>?_) (DR a rt p.2);obtain⟨i,hi,e⟩:=adb d;obtain⟨v,f,b⟩:=Vals.get rt (i:=i) (x:=y) (by rw[aal hi,e]);exact a _ _ _ _ c b (p.1 v (aaN f))
def aj2(K:zzy)(H:Hp)(k:Nat)(f:V->List Int)(x:V):Prop:=∃a,x=.ref a/\cC K H a ((f x).map V.int)/\(f x).length=k
inductive Gs(K:zzy)(xs:List V)(H:Hp)(Q:VK):Prop|m:∀(p:Addr)(ys:List V)(k:Nat)(f:V->List Int),xs=[.ref p]->bF K H p ys->1<=k->(∀y∈ys,aj2 K H k f y)->(∀l zs,H l=none->zs.Perm ys->zs.Pairwise (λx y=>Tim.iM (f y) (f x)=false)->Q (.ref l) (upd H l (.lst zs)))->Gs K xs H Q
theorem Mt:jm X (.builtin "sorted") (Gs X.K):=by
 intro Y s σ H xs us Q I r h;obtain⟨p,l,k,f,rfl,hq,hk,ht,q⟩:=h;obtain⟨u,rfl,J⟩:=vals1 r;cases J;obtain⟨g,K,pl,hz⟩:=I.list hq;have a0:g.length=l.length:=by rw[←K.length]
 have item:∀x v,x∈l->RelV x v -> ∃a d,v=.ref a/\IsTup s.heap a d.toArray/\IntsAre d (f x)/\(f x).length=k:=by intro x v M G;obtain⟨a,rfl,sq,hl⟩:=ht x M;cases G;obtain⟨d,rj,tj,_⟩:=I.tuple sq;exact⟨a,d,Z,tj,Es rj,hl⟩
 have T:Qj s.heap k g:=λv N=>by
  obtain⟨i,R,e⟩:=adb N;have A:i<l.length:=by lia
  obtain⟨v',t,F⟩:=K.get (i:=i) (x:=l[i]) (by rw[aal A]);rw[aal R,e] at t;cases t;obtain⟨a,d,e1,V,U,e4⟩:=item _ _ (List.getElem_mem A) F;exact⟨a,d,_,e1,V,U,e4⟩
 refine Tim.KY (κ:=tuples' true) (rk:=Tim.qN (λa b=>Tim.iM (keyOf s.heap a) (keyOf s.heap b)) g) pl.isList LZ
  (λB h' w=>⟨λQ E hQ=>Qw hk T B w hQ,TJ T w⟩) λh' D c o w hD hd P hs=>?_
 obtain⟨zs,W,C⟩:=Qo K P;have L:zs.length<=sizeLine:=by rw[C.length_eq];lia
 refine⟨.ref D,_,I.laid (t':=s.toks) w hD (show dU X.prog X.w _ h' _ (.lst zs) from ⟨L,o,c,W,hd⟩),Z,q D zs (I.hok.fresh hD) C ?_⟩
 have O:o.Pairwise (λu v=>u∈g/\v∈g/\Tim.iM (keyOf s.heap v) (keyOf s.heap u)=false):=by refine List.Pairwise.imp_of_mem (fun {u v} hu N m=>?_) hs;have mu:=P.mem_iff.mp hu;have mv:=P.mem_iff.mp N;exact⟨mu,mv,Tim.Yx (Tim.N_ (keyOf s.heap)) mv m⟩
 have n:∀z∈zs,z∈l:=λz hz=>C.mem_iff.mp hz
 have zp:zs.Pairwise (λx y=>x∈zs/\y∈zs):=by rw[List.pairwise_iff_getElem];intro i j R hj _;exact⟨List.getElem_mem R,List.getElem_mem hj⟩
 have:=DR (S:=λx y=>x∈l->y∈l->Tim.iM (f y) (f x)=false) (λx y u v J F m M A=>by obtain⟨a,d,rfl,V,U,e4⟩:=item x u M J;obtain⟨b,a1,rfl,g2,g3,g4⟩:=item y v A F;have:=m.2.2;rwa [sV V U,sV g2 g3] at this) W O
 exact List.Pairwise.imp₂ (fun {x y} (h1:x∈l->y∈l->Tim.iM (f y) (f x)=false) (B:x∈zs/\y∈zs)=>h1 (n _ B.1) (n _ B.2)) this zp
def J8(a:X.K=K):jm X (.builtin "sorted") (Gs K):=by subst a;exact Mt
section
variable{l I S:Addr}
theorem Q_{R:Result->Shared->Prop}(E:Nat->List Int)(hh:X.A.handled=none)(hu:X.A.in1.units<cLine)(hl:bF X.K H l xs)(O:l≠I)(D:S≠I)(hk:∀(i:Nat)(v:V),xs[i]?=some v -> ∃t,v=.ref t/\H t=some (.tup ((E i).map V.int)))(hR:∀(i:Nat)(t:Addr)(h:Shared),xs[i]?=some (.ref t)->fB E xs.length i->Inv X pins σ H h->R (.ok (.ret (.ref t))) h)(s:nR X pins H I)(q:nR X pins H S):
 ∀(r j i:Nat)(h:Shared)(tb:Addr)(c:Nat),xs.length-(j+1)=r->j+1<=xs.length->Inv X pins σ H h ->h.heap.get? S=some (seqObj "list" #[.ref tb,.ref tb] c)->h.heap.IsListIter I l (j+1)->xs[i]?=some (.ref tb)->i<=j->fB E (j+1) i ->codeAny (model X.prog X.w) X.A (.builtin "min.loop" ⟨[.ref I,.none,.ref S],[]⟩) R h:=by
 have k:(toString "min" ++ toString ".loop" :String) = "min.loop" :=by decide
 intro r
 induction r with
 | zero=>
   intro j i h tb c hr hj J T hit y a2 d;have P:j+1=xs.length:=by lia
   obtain⟨a,U,pl,_⟩:=J.list hl;have m:a.length=xs.length:=U.length.symm;have W:=Walks.list (prog:=X.prog) (w:=X.w) (A:=X.A.in1) hh I l O a.toArray;have C:a.toArray.size=a.length:=aaX ..;refine codeAny_builtin F.entry_min_loop ?_;rw[Around.under_plainId F.plain_min_loop _];show wpAny _ X.A.in1 (seqItems? (.ref S) >>= _) _ _ _;refine aaB (wpAny_seqItems T rfl ?_);show wpAny _ X.A.in1 (tryCatch (pyNext (.ref I)) _ >>= _) _ _ _;refine aaB (wpAny_tryCatch (W.done _ _ _ ⟨by rw[C,m,←P];exact hit,pl.isList⟩ λQ f n=>?_));have G:Inv X pins σ H {h with heap:=Q,toks:=f}:=J.turned (λb o B e=>n b o (by simpa using B) e) s.1 s.2.1 s.2.2.2.1 s.2.2.2.2.1 s.2.2.2.2.2;have p:=n S _ (by simpa using D) T;show wpAny _ X.A.in1 (updateSeq S (λ_=> #[]) >>= _) _ _ _;refine aaB ?_;refine wpAny_updateSeq p rfl (aaB (wpAny_letGo (aaD ?_)));refine hR i tb _ y (P▸d) ?_;exact G.turned (t':=f) (λb o B e=>(Heap.get?_update_other _ _ (Ne.symm B)).trans e) q.1 q.2.1 q.2.2.2.1 q.2.2.2.2.1 q.2.2.2.2.2
 | succ r ih=>
   intro j i h tb c hr hj J T hit y a2 d;have g:j+1<xs.length:=by lia
   obtain⟨a,U,pl,_⟩:=J.list hl;have m:a.length=xs.length:=U.length.symm;have W:=Walks.list (prog:=X.prog) (w:=X.w) (A:=X.A.in1) hh I l O a.toArray;have C:a.toArray.size=a.length:=aaX ..;refine codeAny_builtin F.entry_min_loop ?_;rw[Around.under_plainId F.plain_min_loop _];show wpAny _ X.A.in1 (seqItems? (.ref S) >>= _) _ _ _;refine aaB (wpAny_seqItems T rfl ?_);show wpAny _ X.A.in1 (tryCatch (pyNext (.ref I)) _ >>= _) _ _ _;refine aaB (wpAny_tryCatch (W.item (j+1) _ _ _ (by rw[C,m];exact g) ⟨hit,pl.isList⟩ λu Q f hP L n=>?_));have a0:a[j+1]?=some u:=by simpa using hP
   obtain⟨t,hv,ht,rfl⟩:∃t,xs[j+1]?=some (.ref t)/\H t=some (.tup ((E (j+1)).map V.int))/\u=Value.ref t:=by
    have Y:xs[j+1]?=some (xs[j+1]'g):=by simp[g]
    obtain⟨u',e1,e2⟩:=U.get (i:=j+1) (x:=xs[j+1]'g) Y;rw[a0] at e1;cases e1;obtain⟨t,e,ht⟩:=hk _ _ Y;rw[e] at e2 Y;exact⟨t,Y,ht,e2⟩
   obtain⟨K,z,N,M⟩:=id L.1;have G:Inv X pins σ H {h with heap:=Q,toks:=f}:=J.turned (λb o B e=>n b o (by simpa using B) e) s.1 s.2.1 s.2.2.2.1 s.2.2.2.2.1 s.2.2.2.2.2;have p:=n S _ (by simpa using D) T;obtain⟨a4,e',a1⟩:=hk _ _ y;cases e';obtain⟨a6,p1,i1⟩:=ints_of G ht;obtain⟨a5,p2,i2⟩:=ints_of G a1;show wpAny _ X.A.in1 (tryCatch (holding [.ref t,.ref t] (richCompare .Lt (.ref t) (.ref tb) >>= _)) _ >>= _) _ _ _;refine aaB (wpAny_tryCatch (wpAny_holding (aaB (HT.Lq p1 p2 i1 i2 hu ?_))));refine aaB (wpAny_holding (wpAny_truthy_bool ?_));refine aaB (wpAny_letGo (aaD ?_));cases hb':HT.lexLt (E (j+1)) (E i) with
   | true=>
     obtain⟨c2,a3⟩:∃c2,(Q.update S (Obj.mapSeq λ_=> #[.ref t,.ref t])).get? S=some (seqObj "list" #[.ref t,.ref t] c2):=⟨_,get?_update_seq p λ_=> #[.ref t,.ref t]⟩;simp only[if_true];refine aaB ?_;refine wpAny_updateSeq p rfl (aaB (wpAny_letGo ?_));rw[k];have J5:Inv X pins σ H {h with heap:=Q.update S (Obj.mapSeq λ_=> #[.ref t,.ref t]),toks:=f}:=G.turned (t':=f) (λb o B e=>(Heap.get?_update_other _ _ (Ne.symm B)).trans e) q.1 q.2.1 q.2.2.2.1 q.2.2.2.2.1 q.2.2.2.2.2;exact aaD ⟨plainId_quiet F.plain_min_loop _,ih (j+1) (j+1) _ t c2 LZ g J5 a3 ⟨K,(Heap.get?_update_other _ _ D).trans z,N,M⟩ hv (aav _) (d.more LZ hb')⟩
   | false=>
     simp only[Bool.false_eq_true,if_false];refine aaB (wpAny_letGo ?_);rw[k];exact aaD ⟨plainId_quiet F.plain_min_loop _,ih (j+1) i _ tb c LZ g G p ⟨K,z,N,M⟩ y LZ (d.less LZ hb')⟩
theorem Rc(M:Nat->List Int)(hh:X.A.handled=none)(hu:X.A.in1.units<cLine)(J:Inv X pins σ H s)(hl:bF X.K H l xs)(a:0<xs.length)(hk:∀(i:Nat)(v:V),xs[i]?=some v -> ∃t,v=.ref t/\H t=some (.tup ((M i).map V.int)))(hQ:∀(i:Nat)(t:Addr)(s1:Shared),xs[i]?=some (.ref t)->fB M xs.length i->Inv X pins σ H s1->Q (.ref t) s1):
 wpAny (model X.prog X.w) X.A (call (.builtin "min") [.ref l] []) Q E s:=by
 have c:(toString "min" ++ toString ".loop" :String) = "min.loop" :=by decide
 have ok:argsOk "min" ⟨[.ref l],[]⟩:=by unfold argsOk;kernel_rfl
 refine wpAny_call (codeAny_call_builtin F.plain_min F.entry_min ?_);simp only[checkBuiltinCall,F.kind_min]
 have run:wpAny (model X.prog X.w) X.A.in1 (Builtin.«min» ⟨[.ref l],[]⟩) (λa1 d=>match a1 with | .done f=>(match (Except.ok f:Result) with | .ok (.ret v)=>Q v d | .ok _=>False | .error e=>E e d) | .again c'=>c'.quiet=true/\codeAny (model X.prog X.w) X.A c' (λr d=>match r with | .ok (.ret v)=>Q v d | .ok _=>False | .error e=>E e d) d) E s:=by
  obtain⟨a3,rv,pl,_⟩:=J.list hl;have q:=pl.isList;obtain⟨ol,P,_⟩:=id q;have Y:l<s.heap.objs.size:=aas P;refine(show wpAny _ X.A.in1 (Builtin.Builtins.bindParams "min" ["key","default"] 0 ⟨[],[]⟩ >>= _) _ _ s from aaB (wpAny_of_eq (show _=pure [none,none] from rfl) (aaB (aaD (aaB (wpAny_pyIter_list q ?_))))));refine aaB (wpAny_newList ?_ (Nat.zero_le _));rw[c];have hS:(s.heap.push {cls:= .type "list_iterator",data:= .fields #[.ref l,.int 0 0]}).objs.size=s.heap.objs.size+1:=size_push' ..;have y:l≠s.heap.objs.size:=aa7 Y;have h:(s.heap.push {cls:= .type "list_iterator",data:= .fields #[.ref l,.int 0 0]}).objs.size≠s.heap.objs.size:=by rw[hS];exact Nat.ne_of_gt (Nat.lt_succ_self _)
  refine aaD ⟨plainId_quiet F.plain_min_loop _,?_⟩;have k:nR X pins H s.heap.objs.size:=J.vN (aav _) (J.hok.fresh (aav _));have j:nR X pins H (s.heap.push {cls:= .type "list_iterator",data:= .fields #[.ref l,.int 0 0]}).objs.size:=J.vN (by rw[hS];exact Nat.le_succ _) (J.hok.fresh (by rw[hS];exact Nat.le_succ _))
  have gI:((s.heap.push {cls:= .type "list_iterator",data:= .fields #[.ref l,.int 0 0]}).push (seqObj "list" #[] 0)).get? s.heap.objs.size=some {cls:= .type "list_iterator",data:= .fields #[.ref l,.int 0 0]}:=aaq _ (aar _ rfl)
  have gS:((s.heap.push {cls:= .type "list_iterator",data:= .fields #[.ref l,.int 0 0]}).push (seqObj "list" #[] 0)).get? (s.heap.push {cls:= .type "list_iterator",data:= .fields #[.ref l,.int 0 0]}).objs.size=some (seqObj "list" #[] 0):=aar _ rfl;have J0:Inv X pins σ H {s with heap:=(s.heap.push {cls:= .type "list_iterator",data:= .fields #[.ref l,.int 0 0]}).push (seqObj "list" #[] 0)}:=J.kept (t':=s.toks) λb u e=>aaq _ (aaq _ e);obtain⟨C,m,G,_⟩:=J0.list hl;have a2:C.length=xs.length:=m.length.symm;have W:=Walks.list (prog:=X.prog) (w:=X.w) (A:=X.A.in1) hh s.heap.objs.size l y C.toArray;have O:C.toArray.size=C.length:=aaX ..;refine codeAny_builtin F.entry_min_loop ?_;rw[Around.under_plainId F.plain_min_loop _];show wpAny _ X.A.in1 (seqItems? (.ref _) >>= _) _ _ _;refine aaB (wpAny_seqItems gS rfl ?_);show wpAny _ X.A.in1 (tryCatch (pyNext (.ref s.heap.objs.size)) _ >>= _) _ _ _;refine aaB (wpAny_tryCatch (W.item 0 _ _ _ (by rw[O,a2];exact a) ⟨⟨_,gI,Z,Z⟩,G.isList⟩ λu h' g hP n z=>?_));have N:C[0]?=some u:=by simpa using hP
  obtain⟨t,hv,rfl⟩:∃t,xs[0]?=some (.ref t)/\u=Value.ref t:=by
   have D:xs[0]?=some (xs[0]'a):=by simp[a]
   obtain⟨u',e1,e2⟩:=m.get (i:=0) (x:=xs[0]'a) D;rw[N] at e1;cases e1;obtain⟨t,e,_⟩:=hk _ _ D;rw[e] at e2 D;exact⟨t,D,e2⟩
  obtain⟨K,p,U,T⟩:=id n.1;have J1:Inv X pins σ H {s with heap:=h',toks:=g}:=J0.turned (λb o L e=>z b o (by simpa using L) e) k.1 k.2.1 k.2.2.2.1 k.2.2.2.2.1 k.2.2.2.2.2;have B:=z _ _ (by simpa using h) gS;generalize (s.heap.push {cls:= .type "list_iterator",data:= .fields #[.ref l,.int 0 0]}).objs.size=S at *;generalize s.heap.objs.size=I at *;obtain⟨c2,a0⟩:∃c2,(h'.update S (Obj.mapSeq λ_=> #[.ref t,.ref t])).get? S=some (seqObj "list" #[.ref t,.ref t] c2):=⟨_,get?_update_seq B λ_=> #[.ref t,.ref t]⟩;show wpAny _ X.A.in1 (updateSeq S (λ_=> #[.ref t,.ref t]) >>= _) _ _ _;refine aaB (wpAny_updateSeq B rfl ?_);rw[c];have J5:Inv X pins σ H {s with heap:=h'.update S (Obj.mapSeq λ_=> #[.ref t,.ref t]),toks:=g}:=J1.turned (t':=g) (λb o L e=>(Heap.get?_update_other _ _ (Ne.symm L)).trans e) j.1 j.2.1 j.2.2.2.1 j.2.2.2.2.1 j.2.2.2.2.2;exact aaD ⟨plainId_quiet F.plain_min_loop _,Q_ (R:=λr d=>match r with | .ok (.ret v)=>Q v d | .ok _=>False | .error e=>E e d) M hh hu hl y h hk hQ k j _ 0 0 _ t c2 rfl a J5 a0 ⟨K,(Heap.get?_update_other _ _ h).trans p,U,T⟩ hv (aav _) fB.one⟩
 cases sg:Manifest.signature? "min" with
 | none=>exact aaD run
 | some sig=>
   have eq:Bind.checkArgs "min" sig ⟨[.ref l],[]⟩=pure ():=by simpa only[argsOk,sg] using ok
   simp only[eq];exact aaD run
def aem(K:zzy):List V->Hp->VK->Prop:=λus H Q=>∃(l:Addr) (xs:List V) (kf:Nat->List Int),us=[.ref l]/\bF K H l xs/\0<xs.length/\(∀(i:Nat)(v:V),xs[i]?=some v -> ∃t,v=.ref t/\H t=some (.tup ((kf i).map V.int))) /\ ∀(i:Nat)(t:Addr),xs[i]?=some (.ref t)->fB kf xs.length i->Q (.ref t) H
theorem Mu(m:X.K=K)(k:X.calm=true)(w:X.A.in1.units+64<cLine):jm X (.builtin "min") (aem K):=by subst m;intro b s o H c p Q I r h;obtain⟨l,c,f,rfl,g,a,j,q⟩:=h;obtain⟨u,rfl,d⟩:=vals1 r;cases d;exact Rc f (I.ok.hd k) LZ I g a j λi t v e n J=>⟨.ref t,H,J,Z,q i t e n⟩
end
end L2
namespace Prf
open PySem L2
def top(i:Nat):Stmt:=PySem.Challenge.pw_fewnotes_k54_whole_two_begun_amid.main.body.getD i (.Pass ⟨0,0,0,0⟩)
abbrev qJ:Stmt:=inClass (top 6) 0
abbrev t_:Stmt:=top 8
abbrev ud:Stmt:=top 9
abbrev wZ:Stmt:=top 12
abbrev qL:Stmt:=inClass (top 16) 0
abbrev lG:Stmt:=inClass (top 16) 1
abbrev lE:Stmt:=inClass (top 16) 2
abbrev lF:Stmt:=inClass (top 16) 3
abbrev xg:Stmt:=inClass (top 16) 4
abbrev pG:Stmt:=inClass (top 16) 5
abbrev qK:Stmt:=inClass (top 16) 6
abbrev iD:Stmt:=inClass (top 16) 7
abbrev b_:Stmt:=inClass (top 17) 0
abbrev pB:Stmt:=inClass (top 17) 1
abbrev ju:Stmt:=inClass (top 17) 2
abbrev m6:Stmt:=inClass (top 17) 3
abbrev m7:Stmt:=inClass (top 17) 4
abbrev pC:Stmt:=inClass (top 17) 5
abbrev qH:Stmt:=inClass (top 17) 6
abbrev lB:Stmt:=inClass (top 17) 7
abbrev pA:Stmt:=inClass (top 17) 8
abbrev j4:Stmt:=inClass (top 17) 9
abbrev jZ:Stmt:=inClass (top 17) 10
abbrev lC:Stmt:=inClass (top 17) 11
abbrev j5:Stmt:=inClass (top 17) 12
abbrev jY:Stmt:=top 18
abbrev wY:Stmt:=top 20
abbrev m5:Stmt:=top 22
abbrev pq:Stmt:=top 23
abbrev Ur:Stmt:=top 24
abbrev qG:Stmt:=top 25
abbrev nu:Stmt:=inClass (top 27) 0
abbrev m8:Stmt:=inClass (top 27) 1
abbrev jw:Stmt:=inClass (top 27) 2
abbrev jx:Stmt:=inClass (top 27) 3
abbrev nA:Stmt:=inClass (top 27) 4
abbrev j6:Stmt:=inClass (top 27) 5
abbrev nF:Stmt:=inClass (top 27) 6
abbrev lD:Stmt:=inClass (top 27) 7
abbrev m_:Stmt:=inClass (top 27) 9
abbrev jy:Stmt:=inClass (top 27) 10
abbrev Gk:Stmt:=top 29
abbrev Gn:Stmt:=top 30
abbrev vg:Stmt:=top 31
abbrev Ax:Stmt:=top 32
abbrev Aw:Stmt:=top 33
abbrev K6:Stmt:=top 34
abbrev uh:Stmt:=top 35
abbrev um:Stmt:=top 36
abbrev K4:Stmt:=top 37
abbrev Gm:Stmt:=top 38
abbrev A_:Stmt:=top 39
abbrev uo:Stmt:=top 40
abbrev Ay:Stmt:=top 41
abbrev qI:Stmt:=top 42
abbrev pF:Stmt:=top 43
abbrev ug:Stmt:=top 44
abbrev uf:Stmt:=top 45
abbrev Gj:Stmt:=top 46
abbrev Az:Stmt:=top 47
abbrev Uq:Stmt:=top 48
structure lZ(mg:zzv):Prop where
 Z7:mg "ValueError" = none
 Kf:mg "all" = none
 Cy:mg "bool" = none
 Kd:mg "enumerate" = none
 Kc:mg "int" = none
 bM:mg "isinstance" = none
 dR:mg "len" = none
 gP:mg "list" = none
 afu:mg "max" = none
 aaU:mg "min" = none
 dH:mg "range" = none
 MF:mg "reversed" = none
 Xa:mg "sorted" = none
 aft:mg "str" = none
 W_:mg "sum" = none
 zA:mg "tuple" = none
 afs:mg "zip" = none
def Gg:aY ["self","note"] ["self","note"] (aN qJ):={}
def IV:aY ["value"] ["value"] (aN t_):={}
def IW:aY ["value","count"] ["value","count"] (aN ud):={}
def K1:aY ["row"] ["row"] (aN wZ):={}
def Gi:aY ["self","rows"] ["self","rows"] (aN qL):={}
def pX:aY ["self","other"] ["self"] (aN lG):={}
def pW:aY ["self","row"] ["self"] (aN lE):={}
def jX:aY ["self","done"] ["self"] (aN lF):={}
def K3:aY ["self","row"] ["self","row"] (aN xg):={}
def mZ:aY ["self","row","left","right"] ["self","row"] (aN pG):={}
def Gh:aY ["self","box","number"] ["self","box","number"] (aN qK):={}
def gY:aY ["self","part","left","right"] ["self","part"] (aN iD):={}
def mY:aY ["self","program","cells","one"] ["self","program","cells"] (aN b_):={}
def mX:aY ["self","hand","one","touch"] ["self","hand"] (aN pB):={}
def eX:aY ["self","one","row","cell","read","written"] ["self","one"] (aN ju):={}
def Am:aY ["self"] ["self"] (aN m6):={}
def Ao:aY ["self","hand"] ["self","hand"] (aN m7):={}
def Dj:aY ["self","hand"] ["self","hand"] (aN pC):={}
def Gf:aY ["self","hand"] ["self","hand"] (aN qH):={}
def yI:aY ["self"] ["self"] (aN lB):={}
def tR:aY ["self","other"] ["self"] (aN pA):={}
def wU:aY ["self","hand"] ["self","hand"] (aN j4):={}
def n_:aY ["self","hands"] ["self"] (aN jZ):={}
def yJ:aY ["self","other"] ["self","other"] (aN lC):={}
def wV:aY ["self"] ["self"] (aN j5):={}
def wR:aY ["cells","count"] ["cells","count"] (aN jY):={}
def KZ:aY ["value"] ["value"] (aN wY):={}
def Al:aY ["record"] ["record"] (aN m5):={}
def Di:aY ["counts","note"] ["counts","note"] (aN pq):={}
def abx:aY ["done","touch"] ["done","touch"] (aN Ur):={}
def o8:aY ["record","firsts","note"] ["record"] (aN qG):={}
def Aq:aY ["self","works","record"] ["self","works","record"] (aN nu):={}
def lA:aY ["self","hand","holding","touch"] ["self","hand"] (aN m8):={}
def u0:aY ["self","hand"] ["self","hand"] (aN jw):={}
def mF:aY ["self","hand","touch"] ["self","hand"] (aN jx):={}
def Ar:aY ["self"] ["self"] (aN nA):={}
def wW:aY ["self"] ["self"] (aN j6):={}
def Av:aY ["self"] ["self"] (aN nF):={}
def yK:aY ["self"] ["self"] (aN lD):={}
def iY:aY ["self","touches","hand","count"] ["self"] (aN m_):={}
def u_:aY ["self"] ["self"] (aN jy):={}
def qF:aY ["script","stir","cell","great"] ["script"] (aN Gk):={}
def vd:aY ["reel","many","rest","told","stir"] ["reel","many"] (aN Gn):={}
def Ec:aY ["found","due"] ["found","due"] (aN vg):={}
def Ea:aY ["reel","boxes","kind"] ["reel","boxes"] (aN Ax):={}
def wX:aY ["reel","boxes","kind","one"] ["reel","boxes"] (aN Aw):={}
def o_:aY ["reel","sizes","at","kind","ahead","box","cell","to"] ["reel","sizes","at"] (aN K6):={}
def gO:aY ["reel","great","many","boxes","hands","k","size"] ["reel"] (aN uh):={}
def I_:aY ["reel","many"] ["reel","many"] (aN um):={}
def o9:aY ["reel","works","hands","turns","web","touches","turn","waiting","k","told"] ["reel","works","hands","turns"] (aN K4):={}
def Uo:aY ["one","other"] ["one","other"] (aN Gm):={}
def kW:aY ["web","ahead","j","row","i","x"] ["web"] (aN A_):={}
def Ja:aY ["ahead","i","j"] ["ahead","i","j"] (aN uo):={}
def kO:aY ["web","few","ahead","hands","found","j","i"] ["web","few"] (aN Ay):={}
def vf:aY ["one","many","hands"] ["one","many"] (aN qI):={}
def tU:aY ["works","hands","waiting"] ["works","hands"] (aN pF):={}
def mH:aY ["one","hand","caught","e"] ["one","hand"] (aN ug):={}
def mG:aY ["one","touches","gone","hand","some","found","note","caught"] ["one","touches","gone","hand","some"] (aN uf):={}
def qC:aY ["one","touches","gone","pick","free","k","told","left"] ["one","touches","gone","pick"] (aN Gj):={}
def Eb:aY ["one","works","hands","touches","told"] ["one","works","hands","touches"] (aN Az):={}
def iw:aY ["script","reel","program","hands","begun","works","web","touches","some","handed","replays","gone","step","at"] ["script"] (aN Uq):={}
structure fG(K:zzy)(C:Addr):Prop where
 cls:Cls K C
 qT:eG K C "rows"
 vA:eG K C "at"
 iJ:eG K C "in_boxes"
 kY:eG K C "sayings"
 jJ:eG K C "state"
structure cD(K:zzy)(C:Addr):Prop where
 cls:Cls K C
 sU:eG K C "program"
 jB:eG K C "numbers"
 mR:eG K C "hands"
 sS:eG K C "turns"
structure dF(K:zzy)(C:Addr):Prop where
 cls:Cls K C
 oH:eG K C "record"
 Jm:eG K C "firsts"
 zq:eG K C "stage"
 fJ:eG K C "progress"
section
variable{mg:zzv}
theorem Hq{α β:Type}(p:α->Bool)(g:α->β):∀l:List α,(List.range l.length).filterMap (λi=>(l[i]?).bind λx=>if p x then some (g x) else none)=(l.filter p).map g
 | []=>rfl
 | x::l=>by
   have a:=Hq p g l;rw[ac8,List.range_succ_eq_map,List.filterMap_cons,List.filterMap_map,acT];cases q:p x
   .simp[q];exact a
   .simp[q];exact a
def pR(x y:Int):PyData.eqv (.int x) (.int y)=decide (x=y):=by simp only[PyData.eqv];rw[Bool.eq_iff_iff];simp
def bZ(h:H a=some (.lst (ns.map V.int))):Dat H (.ref a) (.list (ns.map PyData.int)):=oM h (aV.ints ns)
def shaped_ints(ns:List Int):SeqAt.shaped (.list (ns.map PyData.int))=true:=yj PyData.int 0 DZ (λ_ _=>rfl) (λ_ _=>by show 0<=0;decide)
abbrev Nt:=Int×Int×Int×Int
def nD(x:Nt):PyData:= .tuple [.int x.1,.int x.2.1,.int x.2.2.1,.int x.2.2.2]
def nV(x:Nt):List V:=[.int x.1,.int x.2.1,.int x.2.2.1,.int x.2.2.2]
def qZ(x:Nt):CV (nD x)=true:=Z
def aaS{d:PyData}(h:Dat H v d):aV H [v] [d]:=by simp only[aV,and_true];exact h
def Cg{t:Addr}{x:Nt}(h:H t=some (.tup (nV x))):Dat H (.ref t) (nD x):=by simp only[nD,Dat];exact⟨t,_,Z,h,by simp only[nV,aV,Dat,and_self]⟩
def Ce{x:Nt}(h:Dat H v (nD x)):∃t,v=.ref t/\H t=some (.tup (nV x)):=by
 simp only[nD,Dat] at h;obtain⟨t,f,e,q,d⟩:=h
 match f,d with
 | [a,b,c,z],d=>
   simp only[aV,Dat,and_true] at d;obtain⟨rfl,rfl,rfl,rfl⟩:=d;exact⟨t,e,q⟩
 | [],d=>simp only[aV] at d
 | [_],d=>simp only[aV,and_false] at d
 | [_,_],d=>simp only[aV,and_false] at d
 | [_,_,_],d=>simp only[aV,and_false] at d
 | _::_::_::_::_::_,d=>simp only[aV,and_false] at d
def mW(H:Hp)(a:Addr)(ns:List Nt):Prop:=∃vs,H a=some (.lst vs)/\aV H vs (ns.map nD)
def mW.same{ns:List Nt}(h:mW H a ns)(k:Same H H'):mW H' a ns:=by obtain⟨b,e,d⟩:=h;exact⟨b,k _ _ e,aV.keep k.tups _ (cI _ qZ ns) d⟩
def sJ{ns:List Nt}(d:aV H vs (ns.map nD))(e:vs[i]?=some v):∃x t,ns[i]?=some x/\v=.ref t/\H t=some (.tup (nV x)):=by
 obtain⟨q,eq,b⟩:=d.get e;rw[aap] at eq;cases ex:ns[i]? with
 | none=>rw[ex] at eq;cases eq
 | some x=>
   rw[ex] at eq;cases eq;obtain⟨t,rfl,a⟩:=Ce b;exact⟨x,t,Z,Z,a⟩
def gI(cs:List Int)(h:Int):Int:=(cs[h.toNat]?).getD 0
def iT{h:Int}(a:0<=h)(b:h<cs.length):yP (cs.map V.int) h=some (.int (gI cs h)):=by
 obtain⟨m,rfl⟩:=adh a;have:m<cs.length:=by lia
 refine cj ?_;simp[gI,this]
def B_{c:Int}(h:cs[i]?=some c):gI cs i=c:=by simp[gI,h]
def zx{i:Int}(b:0<=i)(a:i<n):Rj n i=some i.toNat:=by unfold Rj;rw[adq b,adq a]
def acN{h k v:Int}(b:0<=h)(a:h<cs.length)(k0:0<=k):gI (cs.set h.toNat v) k=if k=h then v else gI cs k:=by
 unfold gI;rw[List.getElem?_set]
 by_cases e:k=h
 .subst e
  have:k.toNat<cs.length:=by lia
  simp[this]
 .have:¬h.toNat=k.toNat:=by lia
  simp[e,this]
def aac(cs:List Int)(x:Nt):Prop:=(0<=x.1/\x.1<cs.length)/\(0<=x.2.1/\x.2.1<gI cs x.1)/\(0<=x.2.2.1/\x.2.2.1<cs.length)/\(0<=x.2.2.2/\x.2.2.2<gI cs x.2.2.1)/\x.1≠x.2.2.1
def aah(cs:List Int):Prop:=cs.length<=8 /\ ∀c∈cs,0<=c/\c<=300
theorem aah.gI{cs:List Int}(h:aah cs)(i:Int):0<=gI cs i/\gI cs i<=300:=by
 unfold Prf.gI;cases e:cs[i.toNat]? with
 | none=>simp
 | some c=>exact h.2 c (aaN e)
def acQ(x y:Nt):PyData.eqv (nD x) (nD y)=decide (x=y):=by
 obtain⟨a,b,c,d⟩:=x;obtain⟨l,k,j,i⟩:=y;simp only[nD,PyData.eqv,PyData.eqvAll,Bool.and_true]
 by_cases h:a=l
 .subst h
  by_cases g:b=k
  .subst g
   by_cases f:c=j
   .subst f
    by_cases e:d=i
    .subst e;simp
    .simp[e]
   .simp[f]
  .simp[g]
 .simp[h]
def Aj(ns:List Nt):SeqAt.shaped (.list (ns.map nD))=true:=yj nD 1 DZ (λ_ _=>rfl) (λ_ _=>by show (max 0 (max 0 (max 0 (max 0 0))))+1<=1;decide)
def RecAt(H:Hp)(t c a:Addr)(cs:List Int)(ns:List Nt):Prop:=H t=some (.tup [.ref c,.ref a])/\H c=some (.lst (cs.map V.int))/\mW H a ns
theorem RecAt.same{H H':Hp}{t c a:Addr}{cs:List Int}{ns:List Nt}(h:RecAt H t c a cs ns)(k:Same H H'):RecAt H' t c a cs ns:=⟨k _ _ h.1,k _ _ h.2.1,h.2.2.same k⟩
def CG(cs:List Int)(ns:List Nt):Prop:=aah cs/\ns.length<=100000 /\ ∀x∈ns,aac cs x
def M127:Int:=170141183460469231731687303715884105727
def Z6:Builtin.Int.intBits M127<=127:=PySem.intBits_le_iff.mpr DZ
def Qc{t:Int}(b:0<=t)(a:t<M127):Builtin.Int.intBits t<=127:=PySem.intBits_le_of_natAbs (y:=M127) (by unfold M127 at a ⊢;lia) Z6
def VN{t:Int}(b:0<=t)(a:t<M127):IntMulOk t t:=IntMulOk.of_le (Qc b a) (Qc b a) LZ
def eF(H:Hp)(r:Addr):Prop:=∃(g c:Addr) (gs cs:List Int) (p t:Int),H r=some (.lst [.ref g,.ref c,.int p,.int t])/\H g=some (.lst (gs.map V.int))/\H c=some (.lst (cs.map V.int))/\0<cs.length/\cs.length<=100/\gs.length<=100/\(∀x∈gs,0<=x)/\0<=p/\0<=t/\t<M127/\g≠r/\c≠r
def eF.keep{r:Addr}(h:eF H r)(k:Same H H'):eF H' r:=by obtain⟨g,c,a,f,p,t,e,d,b,q⟩:=h;exact⟨g,c,a,f,p,t,k _ _ e,k _ _ d,k _ _ b,q⟩
def eF.ne{r:Addr}(h:eF H r)(a:H p=none):p≠r:=by obtain⟨g,c,d,e,_,t,b,_⟩:=h;exact(aB b a).symm
def eF.at{r:Addr}(h:eF H r):∃o,H r=some o:=by obtain⟨g,c,b,d,p,t,a,_⟩:=h;exact⟨_,a⟩
theorem eF.tups{H H':Hp}{r:Addr}(h:eF H r)(k:Kp r H H'):∀a xs,H a=some (HO.tup xs)->H' a=some (HO.tup xs):=by obtain⟨g,c,d,e,p,t,b,_⟩:=h;exact k.tups b
def Off(H:Hp)(r x:Addr):Prop:=∀(g c:Addr)(u v:V),H r=some (.lst [.ref g,.ref c,u,v])->x≠g/\x≠c
def KR(r:Addr)(H H':Hp):Prop:=Kp r H H' /\ ∀x o,H x=some o->x≠r->Off H r x->Off H' r x
theorem KR.trans{r:Addr}{H H1 H2:Hp}(a:KR r H H1)(b:KR r H1 H2):KR r H H2:=⟨a.1.trans b.1,λx o e n f=>b.2 x o (a.1 _ _ e n) n (a.2 x o e n f)⟩
theorem KR.tups{r:Addr}{H H':Hp}(k:KR r H H')(R:eF H r):∀a xs,H a=some (HO.tup xs)->H' a=some (HO.tup xs):=R.tups k.1
def KR.same{r:Addr}(R:eF H r)(k:Same H H'):KR r H H':=⟨.of_same k,λx o e n f g c u v a=>by obtain⟨h,j,d,i,p,t,b,_⟩:=R;rw[k _ _ b] at a;cases a;exact f _ _ _ _ b⟩
def eF.off{r x:Addr}(R:eF H r)(a:H x=none):Off H r x:=λg c u v e=>by obtain⟨i,k,h,j,p,t,f,d,b,_⟩:=R;rw[f] at e;cases e;exact⟨λz=>(by rw[z,d] at a;cases a),λz=>(by rw[z,b] at a;cases a)⟩
def Off.same{r x:Addr}(R:eF H r)(k:Same H H')(f:Off H r x):Off H' r x:=λg c u v a=>by obtain⟨e,i,d,h,p,t,b,_⟩:=R;rw[k _ _ b] at a;cases a;exact f _ _ _ _ b
def eF.set{r x:Addr}{o:HO}(R:eF H r)(n:x≠r)(f:Off H r x):eF (upd H x o) r:=by obtain⟨g,c,e,j,p,t,a,i,h,q⟩:=R;obtain⟨d,b⟩:=f _ _ _ _ a;exact⟨g,c,e,j,p,t,by rw[aF n.symm];exact a,by rw[aF d.symm];exact i,by rw[aF b.symm];exact h,q⟩
def Off.set{r x y:Addr}{o:HO}(n:x≠r)(f:Off H r y):Off (upd H x o) r y:=λg c u v e=>f g c u v (by rw[aF n.symm] at e;exact e)
def Kp.new{r:Addr}(k:Kp r H H')(a:H' p=none)(c:∃o,H' r=some o):H p=none:=by
 cases e:H p with
 | none=>rfl
 | some o=>
   by_cases n:p=r
   .subst n
    obtain⟨d,b⟩:=c;rw[a] at b;cases b
   .rw[k _ _ e n] at a
    cases a
def Hu(h:ns.length<=63):lQ (ns.map V.int) none (some 63)=ns.map V.int:=by unfold lQ;rw[HT.Bd,show (some (63:Int))=some ((63:Nat):Int) from rfl,HT.Gp,aak,List.drop_zero,Nat.min_eq_right h,Nat.sub_zero,List.take_of_length_le MZ]
inductive FW(K:zzy)(vs:List V)(H:Hp)(Q:VK)(dY:XK):Prop|m:∀(a:Addr)(ns:List Int),vs=[.ref a]->bF K H a (ns.map V.int)->ns.length<=63->(∀(r:Addr)(H':Hp),H r=none->eF H' r->Same H H'->(∀x o,H x=some o->Off H' r x)->Q (.ref r) H')->FW K vs H Q dY
theorem Vr(F:fU K "_law_reel" "_law_reel" Gk f fd)(Bt:lZ mg):bN P w K mg base ig 1 f fd ["script"] (FW K):=by
 refine F.ok qF (λvs H Q E h=>?_) (λa5 A O s H vs Q E hr h=>?_)
 .obtain⟨a,d,rfl,_⟩:=h
  rfl
 .obtain⟨a,d,rfl,W,g,k⟩:=h
  refine⟨_,(aA (bH (i:=1) qF.nd rfl (Or.inl rfl) (bR qQ aG aG))
   (aA (iI PassesOwn.never rfl (cQ (K:=K) rfl (jQ (nZ (K:=K) rfl) (pv 0) mQ (mO aG))) (bI (i:=2) qF.nd rfl (Or.inl rfl))
   (aJ (bH (i:=1) qF.nd rfl (Or.inl rfl) (bR nH (bR i_ (bR i_ (bR Ow (pv 1) (pv 1)) (bR nH (pv 2) aG)) aG) (bR pI (bR Bp (bR qQ aG aG) (bR qQ aG aG)) aG)))))
   (aA (mL (i:=3) rfl qF.nd rfl (Or.inl rfl) (N:=["cell"]) (own:=["cell"]) (caps:=[]) (bA.of (by kernel_rfl)) (cQ (K:=K) rfl (jQ (nZ (K:=K) rfl) (pv 0) mQ (mO aG))) (λ_ _ _ _=>(bI (i:=0) (show List.Nodup (["cell"]:List Str) by decide +kernel) rfl (Or.inl rfl))) (λ_ _ _ _=>(vq (bD aaA (pv 0) (bR qQ aG aG) (bh _)))) (λ_ _ _ _=>(bR pI (pv 0) (bR qQ aG aG))))
   (aJ (aZ (cP (aj (pv 3) (aj (bR Vk (dB rfl (N:=["cell"]) (own:=["cell"]) (caps:=[]) (bA.of (by kernel_rfl)) (cQ (K:=K) rfl (jQ (nZ (K:=K) rfl) (pv 0) mQ (mO aG))) (λ_ _ _ _=>(bI (i:=0) (show List.Nodup (["cell"]:List Str) by decide +kernel) rfl (Or.inl rfl))) (λ_ _ _ _=>cO) (λ_ _ _ _=>(bR nH (pv 0) aG))) (cP (aj aG au))) (aj aG (aj (pv 1) au)))))))))),?_⟩
  refine⟨_,_,Z,Z,(by show Kw 3 60;exact⟨DZ,DZ,DZ⟩),?_⟩;refine⟨_,Z,_,Z,_,_,Z,W,λp hp=>?_⟩;rw[Hu g];have M:=aH (o:=HO.lst (d.map V.int)) hp;have a4:Kw 2 64:=⟨DZ,DZ,DZ⟩;have a3:Kw 2 63:=⟨DZ,DZ,DZ⟩;have m:Kw 10 18:=⟨DZ,DZ,DZ⟩
  refine⟨p,Z,⟨_,bF.of ao⟩,vO (K:=K) (a:=p) (xs:=d.map V.int) (λi n H2=>∃(t:Int) (v:Option V),n=[some (.ref a),some (.int t),v,none]/\H2=upd H p (.lst (d.map V.int))/\0<=t/\t<M127)
   ⟨_,none,Z,Z,DZ,DZ⟩ (λi n H2 _ ⟨_,_,_,e,_⟩=>by rw[e];exact bF.of ao) ?_ ?_⟩
  .rintro i y n H2 b ⟨t,v,rfl,rfl,t0,t1⟩
   obtain⟨z,rfl⟩:∃z,y=V.int z:=by
    rw[aap] at b;cases e:d[i]? with
    | none=>rw[e] at b;cases b
    | some z=>rw[e] at b;exact⟨z,(aaY b).symm⟩
   refine⟨_,Z,_,Z,_,_,Z,Z,VN t0 t1,_,Z,_,_,Z,Z,(by show (0:Int)<1000000000000000003;decide),_,_,Z,Z,_,_,Z,Z,?_⟩;refine⟨_,_,Z,Z,a4,_,_,Z,Z,a3,_,_,Z,Z,.inr ⟨DZ,DZ⟩,_,_,Z,Z,_,_,Z,Z,(by show (0:Int)<2 ^ Int.toNat 64*2 ^ Int.toNat 63-1;decide),?_⟩;refine⟨_,_,Z,Z,?_,?_⟩
   .exact Int.emod_nonneg _ DZ
   .exact Int.emod_lt_of_pos _ DZ
  .rintro n H2 ⟨t,v,rfl,rfl,t0,t1⟩
   have U:=M.seq W;refine⟨_,Z,_,Z,_,_,Z,U,λp2 a0=>?_⟩;rw[Hu g];have s2:=aH (o:=HO.lst (d.map V.int)) a0;refine⟨p2,Z,⟨_,bF.of ao⟩,λD hD=>?_⟩;refine lR (K:=K) (λi=>(d[i]?).bind λz=>if decide (z≥10 ^ (18:Int).toNat) then some (V.int (z-10 ^ (18:Int).toNat)) else none) hD (bF.of ao) (by rw[aak];lia) (λi v C G F b s3 T q=>?_) (λC s3 e3=>?_)
   .rw[aap] at b
    cases e:d[i]? with
    | none=>rw[e] at b;cases b
    | some z=>
      rw[e] at b;cases b;simp only[e,Option.bind_some] at T q;refine⟨_,Z,_,_,Z,Z,m,_,_,Z,Z,_,Z,?_⟩;refine cV (λw=>?_) (λw=>?_)
      .exact⟨_,Z,_,_,Z,Z,m,_,_,Z,Z,q _ C (Same.refl _) (by rw[adq w])⟩
      .exact T C (Same.refl _) (by rw[adp w])
   rw[aak,Hq (λz:Int=>decide (z≥10 ^ (18:Int).toNat)) (λz=>V.int (z-10 ^ (18:Int).toNat))] at e3;have a2:C D=some (.lst (((d.filter λz=>decide (z≥10 ^ (18:Int).toNat)).map λz=>z-10 ^ (18:Int).toNat).map V.int)):=by rw[e3,acr];rfl
   have B:=(M.trans s2).trans s3;refine⟨_,Z,_,Z,_,Z,_,_,Z,B.seq W,λp3 Y=>?_⟩;rw[Hu g];have s4:=aH (o:=HO.lst (d.map V.int)) Y;refine⟨p3,Z,⟨_,bF.of ao⟩,λD2 a1=>?_⟩;refine lR (K:=K) (λi=>(d[i]?).map λz=>V.int (z % 1000003)) a1 (bF.of ao) (by rw[aak];lia) (λi v H5 G F b L T q=>?_) (λH5 L e5=>?_)
   .rw[aap] at b
    cases e:d[i]? with
    | none=>rw[e] at b;cases b
    | some z=>
      rw[e] at b;cases b;exact⟨_,Z,_,_,Z,Z,(by show (0:Int)<1000003;decide),q _ H5 (Same.refl _) (by rw[e];rfl)⟩
   rw[aak,Pz] at e5;refine⟨sZ1,λp4 X=>?_⟩;have J:=aH (o:=HO.lst [V.int 41]) X;refine⟨D2,p4,_,_,Z,Z,J _ _ e5,ao,by rw[sizeLine_eq,aak];simp only[acj];lia,λc hc=>?_⟩;have s7:=aH (o:=HO.lst (d.map (λz=>V.int (z % 1000003))++[V.int 41])) hc;have l:=(s4.trans L).trans (J.trans s7);refine⟨_,Z,sZ4,λr j=>?_⟩;have I:=aH (o:=HO.lst [V.ref D,V.ref c,V.int 0,V.int t]) j;have eD:=l _ _ a2;have S:D≠r:=aB eD j;have R:c≠r:=aB ao j;have fl:(d.filter λz=>decide (z≥10 ^ (18:Int).toNat)).length<=d.length:=List.length_filter_le _ _
   refine k r _ ((B.trans l).free j) ⟨D,c,_,d.map (· % 1000003)++[41],0,t,ao,I _ _ eD,?_,MZ,by simp;lia,by rw[aak];lia,λx hx=>?_,DZ,t0,t1,S,R⟩ ((B.trans l).trans I) (λx o e g' c' u v er=>by rw[ao] at er;cases er;exact⟨aB ((M.trans s2) _ _ e) hD,aB ((B.trans ((s4.trans L).trans J)) _ _ e) hc⟩)
   .refine I _ _ ?_
    rw[ao,abd,acr];rfl
   .obtain⟨z,hz,rfl⟩:=abE.mp hx
    have:=aaQ (acJ.mp hz).2;lia
inductive kh(K:zzy)(vs:List V)(H:Hp)(Q:VK)(dY:XK):Prop|m:∀(r:Addr)(m:Int),vs=[.ref r,.int m]->eF H r->0<m->m<1329227995784915872903807060280344576->(∀(z:Int)(H':Hp),0<=z->z<m->eF H' r->KR r H H'->Q (.int z) H')->kh K vs H Q dY
theorem Vy(F:fU K "_law_draw" "_law_draw" Gn f fd)(Bt:lZ mg):bN P w K mg base ig 1 f fd ["reel","many"] (kh K):=by
 refine F.ok vd (λvs H Q E h=>?_) (λa4 A U s H vs Q E hr h=>?_)
 .obtain⟨r,m,rfl,_⟩:=h
  rfl
 .obtain⟨r,m,rfl,⟨g,c,T,I,p,t,S,hG,hC,c0,c1,g1,J,p0,t0,t1,z,j⟩,m0,m1,k⟩:=h
  have oJ:=hr.units
  refine⟨_,(aA (bY (bD (Ov (K:=K) rfl oJ) (aP (aO (K:=K) rfl) (pv 0) aG (λ_ _=>rfl)) (cP au) (bh _)) (aA (bH (i:=2) vd.nd rfl (Or.inl rfl) (aP (aO (K:=K) rfl) (aP (aO (K:=K) rfl) (pv 0) aG (λ_ _=>rfl)) aG (λ_ _=>rfl)))
   (aA (pH (bR Vk (bR Gy (cP (aj (bR Jg (pv 2) (pv 1)) au)) (dh xV oZR Bt.Kc Cp (aj (cU aaA (pv 2) (pv 1) (bh _)) au))) (jQ (nZ (K:=K) rfl) (aP (aO (K:=K) rfl) (pv 0) aG (λ_ _=>rfl)) (mO aG) mQ)) (qP (pv 0) aG set_list))
   (aJ (aZ (bR nH (pv 2) (pv 1)))))) bG)
   (aA (pH (bR i_ (aP (aO (K:=K) rfl) (pv 0) aG (λ_ _=>rfl)) aG) (qP (pv 0) aG set_list))
   (aA (bH (i:=3) vd.nd rfl (Or.inl rfl) (aP (aO (K:=K) rfl) (aP (aO (K:=K) rfl) (pv 0) aG (λ_ _=>rfl)) (bR nH (aP (aO (K:=K) rfl) (pv 0) aG (λ_ _=>rfl)) (aU (aW (K:=K) rfl) oZR Bt.dR cH (aj (aP (aO (K:=K) rfl) (pv 0) aG (λ_ _=>rfl)) au))) (λ_ _=>rfl)))
   (aA (bH (i:=4) vd.nd rfl (Or.inl rfl) (bR i_ (bR i_ (bR Ow (aP (aO (K:=K) rfl) (pv 0) aG (λ_ _=>rfl)) (aP (aO (K:=K) rfl) (pv 0) aG (λ_ _=>rfl))) (bR Bp (bR i_ (pv 3) aG) aG)) (bR Bp (aP (aO (K:=K) rfl) (pv 0) aG (λ_ _=>rfl)) aG)))
   (aA (pH (bR nH (pv 4) (bR pI (bR Bp (bR qQ aG aG) (bR qQ aG aG)) aG)) (qP (pv 0) aG set_list))
   (aJ (aZ (bR nH (bR Jg (aP (aO (K:=K) rfl) (pv 0) aG (λ_ _=>rfl)) (bR qQ aG aG)) (pv 1))))))))),?_⟩
  refine⟨_,Z,_,_,_,_,Z,Z,bF.of S,Z,sZ0,λq hq=>?_⟩;have M:=aH (o:=HO.lst []) hq;have b:=M _ _ S;have l:=M _ _ hG;have O:=M _ _ hC;refine⟨_,_,bZ l,bZ (ns:=[]) ao,shaped_ints _,shaped_ints _,_,Z,?_⟩;rw[adq rfl,jR PyData.int pR];refine cV (λw=>?_) (λ_=>?_)
  .have w:T≠[]:=by simpa using w
   obtain⟨x,a,rfl⟩:∃x a,T=x::a:=by
    cases T with
    | nil=>exact adt rfl w
    | cons x a=>exact⟨x,a,Z⟩
   have x0:=J x MZ;refine⟨_,Z,_,_,_,_,Z,Z,bF.of b,Z,_,_,_,_,Z,Z,bF.of l,(by show yP (V.int x::a.map V.int) 0=some (V.int x);simp[yP,Rj]),?_⟩;refine⟨_,Z,_,Z,_,_,Z,Z,⟨m0,m1⟩,sZ1,λq2 Y=>?_⟩;have s2:=aH (o:=HO.lst [V.int (x / m)]) Y;refine⟨_,Z,_,Z,_,_,Z,Z,Or.inr ⟨_,Z,q2,_,_,Z,Z,ao,?_,?_,?_,λq3 X=>?_⟩⟩
   .split<;>decide
   .split<;>decide
   .rw[sizeLine_eq];split<;>simp
   have s3:=aH (o:=HO.lst (List.replicate (if decide (x≥m)=true then (1:Int) else 0).toNat [V.int (x / m)]).flatten) X;have d:=s2.trans s3;refine⟨_,Z,_,_,_,_,Z,Z,bF.of (d _ _ b),Z,_,Z,g,_,Z,bF.of (d _ _ l),λq4 W=>?_⟩;rw[show lQ ((x::a).map V.int) (some 1) none=a.map V.int from JV _ 1];have R:=aH (o:=HO.lst (a.map V.int)) W;have fl:(List.replicate (if decide (x≥m)=true then (1:Int) else 0).toNat [V.int (x / m)]).flatten.length<=1:=by split<;>simp
   have xl:a.length<=100:=by have:(x::a).length<=100:=g1;simp at this;lia
   refine⟨q3,q4,_,_,Z,Z,R _ _ ao,ao,by rw[sizeLine_eq,aak];exact adl (Nat.add_le_add fl xl) DZ,λq5 D=>?_⟩;have s5:=aH (o:=HO.lst ((List.replicate (if decide (x≥m)=true then (1:Int) else 0).toNat [V.int (x / m)]).flatten++a.map V.int)) D;have n:=(d.trans R).trans s5;have a0:=n _ _ b;refine⟨_,Z,_,_,_,_,Z,Z,a0,Z,?_⟩;have B:Kp r (upd (upd (upd (upd (upd H q (HO.lst [])) q2 (HO.lst [V.int (x / m)])) q3 (HO.lst (List.replicate (if decide (x≥m)=true then (1:Int) else 0).toNat [V.int (x / m)]).flatten)) q4 (HO.lst (a.map V.int))) q5 (HO.lst ((List.replicate (if decide (x≥m)=true then (1:Int) else 0).toNat [V.int (x / m)]).flatten++a.map V.int))) _:=Kp.set (o:= .lst [.ref q5,.ref c,.int p,.int t]);have N:q5≠r:=(aB ((d.trans R) _ _ b) D).symm
   have eq5:(List.replicate (if decide (x≥m)=true then (1:Int) else 0).toNat [V.int (x / m)]).flatten++a.map V.int=((if decide (x≥m)=true then [x / m] else [])++a).map V.int:=by split<;>simp
   refine⟨_,Z,_,Z,_,_,Z,Z,m0,?_⟩
   refine k _ _ (Int.emod_nonneg _ LZ) (Int.emod_lt_of_pos _ m0) ⟨q5,c,(if decide (x≥m)=true then [x / m] else [])++a,I,p,t,ao,?_,B _ _ (n _ _ O) j,c0,c1,?_,λy C=>?_,p0,t0,t1,N,j⟩ ⟨(Kp.of_same (M.trans n)).trans B,λy o ey ny f g' c' u v e=>by rw[ao] at e;cases e;exact⟨aB ((M.trans (d.trans R)) _ _ ey) D,(f _ _ _ _ S).2⟩⟩
   .refine B _ _ ?_ N
    rw[ao,eq5]
   .rw[aa1]
    have:(if decide (x≥m)=true then [x / m] else []).length<=1:=by split<;>simp
    have:(x::a).length<=100:=g1;simp only[ac8] at this;lia
   .rcases abA.mp C with C|C
    .split at C
     .have:y=x / m:=by simpa using C
      rw[this];exact Int.ediv_nonneg x0 LZ
     .cases C
    .exact J y (by simp[C])
  .have a3:Kw 2 64:=⟨DZ,DZ,DZ⟩
   have a2:Kw 2 63:=⟨DZ,DZ,DZ⟩;have a1:Kw 2 40:=⟨DZ,DZ,DZ⟩;refine⟨_,Z,_,_,_,_,Z,Z,bF.of b,Z,_,_,Z,Z,_,Z,_,_,_,_,Z,Z,b,Z,?_⟩;have B:Kp r (upd H q (HO.lst [])) (upd (upd H q (HO.lst [])) r (.lst [.ref g,.ref c,.int (p+1),.int t])):=Kp.set;have L:(upd (upd H q (HO.lst [])) r (.lst [.ref g,.ref c,.int (p+1),.int t])) r=some (.lst [.ref g,.ref c,.int (p+1),.int t]):=ao;have G:=B _ _ O j;have i0:0<=(p+1) % (I.length:Int):=Int.emod_nonneg _ LZ;have i1:(p+1) % (I.length:Int)<I.length:=Int.emod_lt_of_pos _ LZ;refine⟨_,Z,_,_,_,_,Z,Z,bF.of L,Z,_,Z,_,_,_,_,Z,Z,bF.of L,Z,_,Z,_,_,_,_,Z,Z,bF.of L,Z,c,_,Z,.inl (bF.of G),_,_,Z,Z,by rw[aak];lia,_,_,_,_,Z,Z,bF.of G,by rw[aak];exact iT i0 i1,?_⟩;generalize gI I ((p+1) % (I.length:Int))=told;refine⟨_,Z,_,_,_,_,Z,Z,bF.of L,Z,_,Z,_,_,_,_,Z,Z,bF.of L,Z,_,_,Z,Z,VN t0 t1,_,Z,_,_,Z,Z,_,_,Z,Z,.inr ⟨DZ,DZ⟩,_,_,Z,Z,_,Z,_,_,_,_,Z,Z,bF.of L,Z,_,_,Z,Z,.inr ⟨DZ,DZ⟩,_,_,Z,Z,?_⟩;refine⟨_,Z,_,_,Z,Z,a3,_,_,Z,Z,a2,_,_,Z,Z,.inr ⟨DZ,DZ⟩,_,_,Z,Z,_,_,Z,Z,(by show (0:Int)<2 ^ Int.toNat 64*2 ^ Int.toNat 63-1;decide),_,Z,_,_,_,_,Z,Z,L,Z,?_⟩;refine⟨_,Z,_,_,_,_,Z,Z,bF.of ao,Z,_,_,Z,Z,a1,_,_,Z,Z,⟨DZ,DZ⟩,_,Z,_,_,Z,Z,m0,?_⟩
   refine k _ _ (Int.emod_nonneg _ LZ) (Int.emod_lt_of_pos _ m0) ⟨g,c,T,I,p+1,_,ao,?_,?_,c0,c1,g1,J,LZ,Int.emod_nonneg _ DZ,Int.emod_lt_of_pos _ DZ,z,j⟩ ⟨((Kp.of_same M).trans B).trans Kp.set,λy o ey ny f g' c' u v e=>by rw[ao] at e;cases e;exact f _ _ _ _ S⟩
   .rw[aF z];exact B _ _ l z
   .rw[aF j];exact G
def ux(i:Int)(n:Nat):Prop:=0<=i/\i<(n:Int)
instance (i:Int) (n:Nat):Decidable (ux i n):=inferInstanceAs (Decidable (_/\_))
inductive Yk(K:zzy)(vs:List V)(H:Hp)(Q:VK)(dY:XK):Prop|m:∀i:Int,vs=[.int i]->Q (.bl true) H->Yk K vs H Q dY
def Jh(F:fU K "is_whole" "is_whole" t_ f fd)(a:lZ mg):bN P w K mg base ig 1 f fd ["value"] (Yk K):=by
 refine F.ok IV (λd H Q E h=>?_) (λe A b s H d Q E g h=>?_)
 .obtain⟨i,rfl,_⟩:=h
  rfl
 .obtain⟨i,rfl,k⟩:=h
  refine⟨_,(aJ (aZ (jA (aU (cT (K:=K) (cv:= .ty "int") (c:= .type "int") rfl rfl) oZR a.bM bL (aj (pv 0) (aj (fO (v:= .ty "int") oZR a.Kc Cp rfl) au))) (iZ (Vd (aU (cT (K:=K) (cv:= .ty "bool") (c:= .type "bool") rfl rfl) oZR a.bM bL (aj (pv 0) (aj (fO (v:= .ty "bool") oZR a.Cy vZ rfl) au)))))))),?_⟩;refine⟨_,Z,_,_,true,Z,.int i,yt K,true,Z,?_⟩;refine eO ?_;exact⟨_,Z,_,_,false,Z,.int i,pP K,false,Z,k⟩
inductive rY(K:zzy)(vs:List V)(H:Hp)(Q:VK)(dY:XK):Prop|m:∀(i:Int)(n:Nat),vs=[.int i,.int n]->Q (.bl (decide (ux i n))) H->rY K vs H Q dY
def Ji(F:fU K "is_below" "is_below" ud f fd)(d:FnAt P w K mg base 1 "is_whole" ["value"] (Yk K)):bN P w K mg base ig 2 f fd ["value","count"] (rY K):=by
 refine F.ok IW (λc H Q E h=>?_) (λj A b s H c Q E g h=>?_)
 .obtain⟨i,n,rfl,_⟩:=h
  rfl
 .obtain⟨i,n,rfl,k⟩:=h
  refine⟨_,(aJ (aZ (jA (bK d (g.mono DZ) oZR (aj (pv 0) au)) (iZ (Vi aay tV aG (pv 0) (pv 1)))))),?_⟩;refine⟨_,Z,i,Z,true,Z,?_⟩;refine eO ?_;refine⟨_,Z,_,_,Z,Z,_,Z,?_⟩;refine cV (λa=>?_) (λa=>?_)
  .refine⟨_,Z,_,_,Z,Z,?_⟩
   have e:decide (ux i n)=decide (i<(n:Int)):=by have a:=aaQ a;rw[Bool.eq_iff_iff,decide_eq_true_iff,decide_eq_true_iff];exact⟨λz=>z.2,λz=>⟨a,z⟩⟩
   show Q (.bl (decide (i<(n:Int)))) H;rw[←e];exact k
  .have e:decide (ux i n)=false:=aaP λz=>a (aaO z.1)
   rw[←e];exact k
def hF(r:Addr)(n:Int)(b sy:Addr)(st:Str):List (Str×V):=[("rows",.ref r),("at",.int n),("in_boxes",.ref b),("sayings",.ref sy),("state",.str st)]
structure qj where
 (h hx r b sy:Addr)
structure pU(CH:Addr)(H:Hp)(A:qj)(s:bJ):Prop where
 h:H A.h=some (.ins CH A.hx (hF A.r s.pos A.b A.sy s.st))
 b:H A.b=some (.lst (s.bs.map V.int))
 y:H A.sy=some (.lst (s.sy.map V.int))
 Q6:A.b≠A.sy
 bl:s.bs.length=8
def KH(A:qj)(H H':Hp):Prop:=∀x o,H x=some o->x≠A.h->x≠A.b->x≠A.sy->H' x=some o
def KH.of_same{A:qj}(k:Same H H'):KH A H H':=λx o e _ _ _=>k _ _ e
def KH.trans{A:qj}{H1 H2:Hp}(a:KH A H H1)(b:KH A H1 H2):KH A H H2:=λx o e f d c=>b x o (a x o e f d c) f d c
def KH.tZ{A:qj}{o:HO}:KH A H (upd H A.h o):=λx u e n _ _=>by rw[aF n];exact e
def KH.Ul{A:qj}{o:HO}:KH A H (upd H A.b o):=λx u e _ n _=>by rw[aF n];exact e
def KH.abw{A:qj}{o:HO}:KH A H (upd H A.sy o):=λx u e _ _ n=>by rw[aF n];exact e
def pU.Zi{A:qj}{s:bJ}(c:pU CH H A s):A.h≠A.b:=dG c.h c.b ZN
def pU.nhy{A:qj}{s:bJ}(c:pU CH H A s):A.h≠A.sy:=dG c.h c.y ZN
def pU.same{A:qj}{s:bJ}(c:pU CH H A s)(k:Same H H'):pU CH H' A s:=⟨k _ _ c.h,k _ _ c.b,k _ _ c.y,c.Q6,c.bl⟩
theorem pU.tup{a:Addr}{H H':Hp}{A:qj}{s:bJ}(c:pU a H A s)(k:KH A H H'):∀x xs,H x=some (.tup xs)->H' x=some (.tup xs):=λx xs e=>k _ _ e (dG e c.h ZN) (dG e c.b ZN) (dG e c.y ZN)
def pU.tZ{A:qj}{s:bJ}(c:pU CH H A s)(n:Nat)(st:Str):pU CH (upd H A.h (.ins CH A.hx (hF A.r n A.b A.sy st))) A {s with pos:=n,st:=st}:=⟨ao,by rw[aF c.Zi.symm];exact c.b,by rw[aF c.nhy.symm];exact c.y,c.Q6,c.bl⟩
def pU.Ul{A:qj}{s:bJ}(c:pU CH H A s)(bs:List Int)(l:bs.length=8):pU CH (upd H A.b (.lst (bs.map V.int))) A {s with bs:=bs}:=⟨by rw[aF c.Zi];exact c.h,ao,by rw[aF c.Q6.symm];exact c.y,c.Q6,l⟩
def pU.abw{A:qj}{s:bJ}(c:pU CH H A s)(ys:List Int):pU CH (upd H A.sy (.lst (ys.map V.int))) A {s with sy:=ys}:=⟨by rw[aF c.nhy];exact c.h,by rw[aF c.Q6];exact c.b,ao,c.Q6,c.bl⟩
def Bg(r b sy:Addr)(n m:Int)(st:Str):cM "at" (.int m) (hF r n b sy st)=hF r m b sy st:=by rfl
def Gu(r b sy:Addr)(n:Int)(st a:Str):cM "state" (.str a) (hF r n b sy st)=hF r n b sy a:=by rfl
def Ho(n:Nat):(List.range n).filterMap (λ_=>some (V.int 0))=(List.replicate n 0).map V.int:=by
 induction n with
 | zero=>rfl
 | succ n a=>rw[d8,a,List.replicate_succ',abd];rfl
def zu{o:Addr}(h:Kp o H H')(ne:p≠o)(n:H' p=none):H p=none:=by
 cases e:H p with
 | none=>rfl
 | some u=>rw[h _ _ e ne] at n;cases n
def afr:∀b:Fin 8,Builtin.Str.occurrences (Str.ofString "abcdefgh") (vX b.val) 0 (Str.ofString "abcdefgh").length 1=[b.val]:=by decide +kernel
def W8{b:Nat}(h:b<8):Builtin.Str.occurrences (Str.ofString "abcdefgh") (vX b) 0 (Str.ofString "abcdefgh").length 1=[b]:=afr ⟨b,h⟩
inductive uW(CH:Addr)(K:zzy)(vs:List V)(H:Hp)(Q:VK)(dY:XK):Prop|m:∀(a r dx:Addr),vs=[.ref a,.ref r]->H a=some (.ins CH dx [])->(∀(b sy:Addr)(H':Hp),H b=none->H sy=none->b≠sy->H' a=some (.ins CH dx (hF r 0 b sy "waits"))->H' b=some (.lst ((List.replicate 8 0).map V.int))->H' sy=some (.lst [])->Kp a H H'->Q .non H')->uW CH K vs H Q dY
theorem Vv(F:fU K "__init__" "Hand.__init__" qL f fd)(g:fG K aq)(B:Gv mg "BOXES" (.str "abcdefgh")):bN P w K mg base ig 1 f fd ["self","rows"] (uW aq K):=by
 refine F.ok Gi (λC H Q E h=>?_) (λM A v s H C Q E R h=>?_)
 .obtain⟨a,r,l,rfl,_⟩:=h
  rfl
 .obtain⟨a,r,l,rfl,L,k⟩:=h
  refine⟨_,(aA (dz (K:=K) rfl (pv 0) (pv 1) rfl)
   (aA (dz (K:=K) rfl (pv 0) aG rfl)
   (aA (dz (K:=K) rfl (pv 0) (dB rfl (N:=["box"]) (own:=["box"]) (caps:=[]) (bA.of (by kernel_rfl)) (abL (jH oZR B.choose_spec.1 B.choose_spec.2)) (λ_ _ _ _=>(bI (i:=0) (show List.Nodup (["box"]:List Str) by decide +kernel) rfl (Or.inl rfl))) (λ_ _ _ _=>cO) (λ_ _ _ _=>aG)) rfl)
   (aA (dz (K:=K) rfl (pv 0) (cP au) rfl)
   (aJ (dz (K:=K) rfl (pv 0) bO rfl)))))),?_⟩
  refine⟨_,Z,_,Z,a,aq,l,[],Z,L,g.cls,g.qT,DZ,?_⟩;refine⟨_,Z,a,aq,l,_,Z,ao,g.cls,g.vA,(by show 1<1000;decide),?_⟩;refine⟨_,Z,λD u=>?_⟩;refine RV (λ_=>some (.int 0)) u DZ (λi c H1 G F S t O J=>J _ H1 (Same.refl _) rfl) (λH1 t z=>?_);rw[Ho] at z;refine⟨_,Z,a,aq,l,_,Z,t _ _ ao,g.cls,g.iJ,(by show 2<1000;decide),?_⟩;have d:a≠D:=aB ao u;refine⟨sZ0,λq j=>?_⟩;have b:a≠q:=aB ao j;refine⟨_,Z,a,aq,l,_,Z,(by rw[aF b];exact ao),g.cls,g.kY,(by show 3<1000;decide),?_⟩;refine⟨_,Z,a,aq,l,_,Z,ao,g.cls,g.jJ,(by show 4<1000;decide),?_⟩;have y:H D=none:=by rw[aF d.symm,aF d.symm] at u;exact u
  have m:D≠q:=by intro e;rw[←e,aF d.symm,z] at j;cases j
  have p:H q=none:=by
   rw[aF b.symm] at j;cases e:H q with
   | none=>rfl
   | some o=>
     have:=t q o (by rw[aF b.symm,aF b.symm];exact e);rw[this] at j;cases j
  refine k D q _ y p m ?_ ?_ ?_ ?_
  .rw[ao];rfl
  .rw[aF d.symm,aF d.symm,aF m,aF d.symm,z];rfl
  .rw[aF b.symm,aF b.symm,ao]
  .intro x o e n
   have I:x≠q:=aB e p;rw[aF n,aF n,aF I,aF n];exact t x o (by rw[aF n,aF n];exact e)
def aaW{x:V}{l:List V}:yP (x::l) 0=some x:=cj (j:=0) rfl
def afv{x z:V}{l:List V}:yP (x::y::z::l) 2=some z:=cj (j:=2) rfl
def JZ(r:Rw):V:=if touch r then .int (je r) else .non
inductive uY(K:zzy)(vs:List V)(H:Hp)(Q:VK)(dY:XK):Prop|m:∀(v:V)(r:Rw),vs=[v]->Dat H v (ou r)->(∀H',Same H H'->Q (JZ r) H')->uY K vs H Q dY
theorem QZ(F:fU K "cell_of" "cell_of" wZ f fd):bN P w K mg base ig 1 f fd ["row"] (uY K):=by
 refine F.ok K1 (λG H Q E h=>?_) (λO A u s H G Q E S h=>?_)
 .obtain⟨v,r,rfl,_⟩:=h
  rfl
 .obtain⟨v,r,rfl,d,k⟩:=h
  obtain⟨t,D,rfl,i,a⟩:=Qf d
  refine⟨_,(aA (bY (bD dZ (aP (aX (K:=K) rfl) (pv 0) aG (λ_ _=>rfl)) bO (bh _)) (aJ (aZ (aP (aX (K:=K) rfl) (pv 0) aG (λ_ _=>rfl)))) bG)
   (aJ (aZ (lM (bD (Bq (K:=K) rfl) (aP (aX (K:=K) rfl) (pv 0) aG (λ_ _=>rfl)) (dI (aj bO (aj bO au))) (by with_unfolding_all rfl)) (aP (aX (K:=K) rfl) (pv 0) aG (λ_ _=>rfl)) j7)))),?_⟩
  have N:(∃c e,r=.store c e) \/ ∃(x:Str) (j:List V),D=.str x::j/\x≠Str.ofString "store" /\ (x=Str.ofString "load" \/ x=Str.ofString "swap" -> ∃y z,j=y :: .int (je r)::z/\touch r=true)/\(x≠Str.ofString "load" -> x≠Str.ofString "swap" -> touch r=false):=by
   cases r with
   | store c e=>exact .inl ⟨c,e,Z⟩
   | load b c=>exact .inr ⟨_,_,a,by decide +kernel,λ_=>⟨_,_,Z,Z⟩,λz=>adt rfl z⟩
   | swap b c e=>
     obtain⟨x,g,_⟩:=a;exact .inr ⟨_,_,g,by decide +kernel,λ_=>⟨_,_,Z,Z⟩,λ_ z=>adt rfl z⟩
   | yL b e=>
     obtain⟨x,g,_⟩:=a;exact .inr ⟨_,_,g,by decide +kernel,λz=>adt z (by decide +kernel),λ_ _=>rfl⟩
   | say e=>
     obtain⟨x,g,_⟩:=a;exact .inr ⟨_,_,g,by decide +kernel,λz=>adt z (by decide +kernel),λ_ _=>rfl⟩
   | go n=>exact .inr ⟨_,_,a,by decide +kernel,λz=>adt z (by decide +kernel),λ_ _=>rfl⟩
   | Dd q e f n=>
     obtain⟨x,y,g,_⟩:=a;exact .inr ⟨_,_,g,by decide +kernel,λz=>adt z (by decide +kernel),λ_ _=>rfl⟩
  rcases N with ⟨c,e,rfl⟩|⟨x,j,rfl,I,M,L⟩
  .obtain⟨x,rfl,_⟩:=a
   refine⟨_,Z,_,_,_,_,Z,Z,cC.of i,Z,Z,_,Z,?_⟩;refine cV (λ_=>?_) (λz=>adt (aaO rfl) z);exact⟨_,Z,_,_,_,_,Z,Z,cC.of i,Z,k H (Same.refl _)⟩
  refine⟨_,Z,_,_,_,_,Z,Z,cC.of i,aaW,Z,_,Z,?_⟩;refine cV (λz=>adt (by simpa using aaQ z) I) (λ_=>?_);refine⟨_,Z,_,_,_,_,Z,Z,cC.of i,aaW,sZ2,λp J=>?_⟩;have m:=aH (o:=HO.tup [V.str (Str.ofString "load"),V.str (Str.ofString "swap")]) J;refine⟨p,_,Z,.inr (cC.of ao),Z,Z,_,Z,?_⟩
  by_cases z:x=Str.ofString "load" \/ x=Str.ofString "swap"
  .obtain⟨y,R,rfl,l⟩:=M z
   refine cV (λ_=>?_) (λq=>adt ?_ q)
   .refine⟨_,Z,_,_,_,_,Z,Z,cC.of (m _ _ i),afv,?_⟩
    have:=k _ m;unfold JZ at this;rw[adq l] at this;exact this
   .rcases z with rfl|rfl<;>decide +kernel
  .have C:x≠Str.ofString "load" :=λq=>z (.inl q)
   have B:x≠Str.ofString "swap" :=λq=>z (.inr q);have l:=L C B;refine cV (λq=>adt q ?_) (λ_=>?_)
   .simp[inV,Wx,C.symm,B.symm]
   .have:=k _ m
    unfold JZ at this;rw[adp (by rw[l];decide)] at this;exact this
def JL:Ku->Nat
 | .one _=>1
 | .two _ _ _=>2
inductive yg(CH:Addr)(n:Nat)(K:zzy)(vs:List V)(H:Hp)(Q:VK)(dY:XK):Prop|m:∀(A:qj)(s:bJ)(v:V)(e:Ku),vs=[.ref A.h,v]->pU CH H A s->Dat H v (oR e)->xQ e->JL e<=n->Q (.int (vx s.bs e)) H->yg CH n K vs H Q dY
def Y4(F:fU K "value_of" "Hand.value_of" iD f fd):bN P w K mg base ig 1 f fd ["self","part"] (yg aq 0 K):=by
 refine F.ok gY (λb H Q E h=>?_) (λc A a s H b Q E d h=>?_)
 .obtain⟨A,s,v,e,rfl,_,_,_,z,_⟩:=h
  cases e<;>simp[JL] at z
 .obtain⟨A,s,v,e,rfl,_,_,_,z,_⟩:=h
  cases e<;>simp[JL] at z
theorem Ox(F:fU K "value_of" "Hand.value_of" iD f fd)(L:MethAt P w K mg base (n+1) aq "value_of" ["self","part"] (yg aq n K))(o:fG K aq)(G:Gv mg "BOXES" (.str "abcdefgh"))(l:Gv mg "ROUND" (.int 1000)):bN P w K mg base ig (n+1+1) f fd ["self","part"] (yg aq (n+1) K):=by
 refine F.ok gY (λN H Q E h=>?_) (λU A r s H N Q E C h=>?_)
 .obtain⟨A,s,v,e,rfl,_⟩:=h
  rfl
 .obtain⟨B,z,v,e,rfl,c,d,g,j,k⟩:=h
  refine⟨_,(aA (bY (bD dZ (aP (aX (K:=K) rfl) (pv 1) aG (λ_ _=>rfl)) bO (bh _)) (aJ (aZ (bR nH (aP (aX (K:=K) rfl) (pv 1) aG (λ_ _=>rfl)) (jH oZR l.choose_spec.1 l.choose_spec.2)))) bG)
   (aA (bY (bD dZ (aP (aX (K:=K) rfl) (pv 1) aG (λ_ _=>rfl)) bO (bh _)) (aJ (aZ (aP (aO (K:=K) rfl) (bf (K:=K) rfl (pv 0) rfl) (xH (K:=K) rfl PySem.F.plainAttrs_str PySem.F.slot_str_index PySem.F.type_str_index El (jH oZR G.choose_spec.1 G.choose_spec.2) (aj (aP (aX (K:=K) rfl) (pv 1) aG (λ_ _=>rfl)) au)) (λ_ _=>rfl)))) bG)
   (aA (bH (i:=2) gY.nd rfl (Or.inl rfl) (cu L o.cls (C.mono (aav _)) (pv 0) (aj (aP (aX (K:=K) rfl) (pv 1) aG (λ_ _=>rfl)) au)))
   (aA (bH (i:=3) gY.nd rfl (Or.inl rfl) (cu L o.cls (C.mono (aav _)) (pv 0) (aj (aP (aX (K:=K) rfl) (pv 1) aG (λ_ _=>rfl)) au)))
   (aJ (aZ (bR nH (lM (bD dZ (aP (aX (K:=K) rfl) (pv 1) aG (λ_ _=>rfl)) bO (bh _)) (bR i_ (pv 2) (pv 3)) (bR pI (pv 2) (pv 3))) (jH oZR l.choose_spec.1 l.choose_spec.2)))))))),?_⟩
  match e,d,g,j,k with
  | .one (.num m),d,g,j,k=>
    obtain⟨t,rfl,a⟩:=aaV (x:= .num m) d;refine⟨_,Z,_,_,_,_,Z,Z,cC.of a,Z,Z,_,Z,?_⟩;refine cV (λ_=>?_) (λz=>adt (aaO rfl) z);exact⟨_,Z,_,_,_,_,Z,Z,cC.of a,Z,_,_,Z,Z,(by show (0:Int)<1000;decide),k⟩
  | .one (.box b),d,g,j,k=>
    obtain⟨t,rfl,a⟩:=aaV (x:= .box b) d;refine⟨_,Z,_,_,_,_,Z,Z,cC.of a,Z,Z,_,Z,?_⟩;refine cV (λz=>adt (aaQ z) DZ) (λ_=>?_);refine⟨_,Z,_,_,_,_,Z,Z,cC.of a,Z,Z,_,Z,?_⟩;refine cV (λ_=>?_) (λz=>adt (aaO rfl) z);have D:b<8:=g;refine⟨_,Z,B.h,aq,B.hx,_,_,Z,c.h,o.cls,o.iJ,Z,Z,_,Z,_,_,_,_,Z,Z,cC.of a,Z,_,_,b,[],Z,Z,W8 D,_,_,_,_,Z,Z,bF.of c.b,cj (v:= .int ((z.bs[b]?).getD 0)) ?_,k⟩;have R:b<z.bs.length:=by rw[c.bl];exact D
    rw[aap,aal R];rfl
  | .two p x y,d,g,j,k=>
    obtain⟨t,u,M,rfl,a,T,S⟩:=ac3 d;have I:xQ (.one x)/\xQ (.one y):=g
    have J:1<=n:=by have:2<=n+1:=j;lia
    have np:∀q:Bool,(Str.ofString "number")≠(if q then Str.ofString "plus" else Str.ofString "minus"):=by decide +kernel
    have O:∀q:Bool,(Str.ofString "box")≠(if q then Str.ofString "plus" else Str.ofString "minus"):=by decide +kernel
    refine⟨_,Z,_,_,_,_,Z,Z,cC.of a,Z,Z,_,Z,?_⟩;refine cV (λz=>adt (by simpa using (aaQ z).symm) (np p)) (λ_=>?_);refine⟨_,Z,_,_,_,_,Z,Z,cC.of a,Z,Z,_,Z,?_⟩;refine cV (λz=>adt (by simpa using (aaQ z).symm) (O p)) (λ_=>?_);refine⟨_,Z,B.h,B.hx,_,Z,c.h,Z,_,Z,_,_,_,_,Z,Z,cC.of a,Z,B,z,u,.one x,Z,c,T,I.1,J,?_⟩;refine⟨_,Z,B.h,B.hx,_,Z,c.h,Z,_,Z,_,_,_,_,Z,Z,cC.of a,Z,B,z,M,.one y,Z,c,S,I.2,J,?_⟩;refine⟨_,Z,_,_,_,_,Z,Z,cC.of a,Z,Z,_,Z,?_⟩;cases p with
    | true=>
      refine cV (λ_=>?_) (λz=>adt (aaO rfl) z);exact⟨_,Z,_,Z,_,_,Z,Z,_,_,Z,Z,(by show (0:Int)<1000;decide),k⟩
    | false=>
      refine cV (λz=>adt (aaQ z) DZ) (λ_=>?_);exact⟨_,Z,_,Z,_,_,Z,Z,_,_,Z,Z,(by show (0:Int)<1000;decide),k⟩
def RK(e:Ku):JL e<=2:=by cases e<;>simp[JL]
inductive yX(CH:Addr)(K:zzy)(vs:List V)(H:Hp)(Q:VK)(dY:XK):Prop|m:∀(A:qj)(s:bJ)(v:V)(q:Bool)(e f:Ku)(n:Nat),vs=[.ref A.h,v]->pU CH H A s->Dat H v (ou (.Dd q e f n))->xQ e->xQ f->Q (.bl (xO s.bs (.Dd q e f n))) H->yX CH K vs H Q dY
theorem Vu(F:fU K "holds" "Hand.holds" pG f fd)(j:MethAt P w K mg base 3 aq "value_of" ["self","part"] (yg aq 2 K))(l:fG K aq):bN P w K mg base ig 4 f fd ["self","row"] (yX aq K):=by
 refine F.ok mZ (λm H Q E h=>?_) (λC A a s H m Q E g h=>?_)
 .obtain⟨A,s,v,q,e,f,n,rfl,_⟩:=h
  rfl
 .obtain⟨B,z,v,q,e,f,n,rfl,c,d,p,o,k⟩:=h
  refine⟨_,(aA (bH (i:=2) mZ.nd rfl (Or.inl rfl) (cu j l.cls (g.mono DZ) (pv 0) (aj (aP (aX (K:=K) rfl) (pv 1) aG (λ_ _=>rfl)) au)))
   (aA (bH (i:=3) mZ.nd rfl (Or.inl rfl) (cu j l.cls (g.mono DZ) (pv 0) (aj (aP (aX (K:=K) rfl) (pv 1) aG (λ_ _=>rfl)) au)))
   (aJ (aZ (lM (bD dZ (aP (aX (K:=K) rfl) (pv 1) aG (λ_ _=>rfl)) bO (bh _)) (cU dZ (pv 2) (pv 3) (bh _)) (cU tV (pv 2) (pv 3) (bh _))))))),?_⟩
  obtain⟨t,D,rfl,b,x,y,rfl,u,r⟩:=Qf d;refine⟨_,Z,B.h,B.hx,_,Z,c.h,Z,_,Z,_,_,_,_,Z,Z,cC.of b,Z,B,z,x,e,Z,c,u,p,RK e,?_⟩;refine⟨_,Z,B.h,B.hx,_,Z,c.h,Z,_,Z,_,_,_,_,Z,Z,cC.of b,Z,B,z,y,f,Z,c,r,o,RK f,?_⟩;refine⟨_,Z,_,_,_,_,Z,Z,cC.of b,Z,Z,_,Z,?_⟩;cases q with
  | true=>
    refine cV (λ_=>?_) (λz=>adt (aaO rfl) z);refine⟨_,Z,_,Z,Z,?_⟩
    have:decide (V.int (vx z.bs e)=V.int (vx z.bs f))=xO z.bs (.Dd true e f n):=by show _=decide (vx z.bs e=vx z.bs f);rw[Bool.eq_iff_iff,decide_eq_true_iff,decide_eq_true_iff];exact⟨λz=>V.int.inj z,λz=>by rw[z]⟩
    rw[this];exact k
  | false=>
    refine cV (λz=>adt (aaQ z) DZ) (λ_=>?_);exact⟨_,Z,_,Z,_,_,Z,Z,k⟩
inductive Ab(CH:Addr)(K:zzy)(vs:List V)(H:Hp)(Q:VK)(dY:XK):Prop|m:∀(A:qj)(s:bJ)(b:Nat)(i:Int),vs=[.ref A.h,.str (vX b),.int i]->pU CH H A s->b<8->Q .non (upd H A.b (.lst ((s.bs.set b i).map V.int)))->Ab CH K vs H Q dY
def Y7(F:fU K "take" "Hand.take" qK f fd)(e:fG K aq)(d:Gv mg "BOXES" (.str "abcdefgh")):bN P w K mg base ig 1 f fd ["self","box","number"] (Ab aq K):=by
 refine F.ok Gh (λg H Q E h=>?_) (λl A a s H g Q E m h=>?_)
 .obtain⟨A,s,b,i,rfl,_⟩:=h
  rfl
 .obtain⟨B,z,b,i,rfl,c,j,k⟩:=h
  refine⟨_,(aJ (pH (pv 2) (qP (bf (K:=K) rfl (pv 0) rfl) (xH (K:=K) rfl PySem.F.plainAttrs_str PySem.F.slot_str_index PySem.F.type_str_index El (jH oZR d.choose_spec.1 d.choose_spec.2) (aj (pv 1) au)) set_list))),?_⟩;refine⟨_,Z,_,Z,B.h,aq,B.hx,_,_,Z,c.h,e.cls,e.iJ,Z,Z,_,Z,_,_,b,[],Z,Z,W8 j,?_⟩;rw[List.map_set] at k;exact⟨B.b,_,_,b,Z,Z,c.b,(by rw[aak,c.bl];unfold Rj;rw[adq LZ,adq LZ];simp),k⟩
inductive Yl(CH:Addr)(K:zzy)(vs:List V)(H:Hp)(Q:VK)(dY:XK):Prop|m:∀(A:qj)(s:bJ)(v:V)(r:Rw)(m:Nat),vs=[.ref A.h,v]->pU CH H A s->Dat H v (ou r)->Jc m r->touch r=false->s.sy.length<1000000->(∀H',pU CH H' A (yu s r)->KH A H H'->Q .non H')->Yl CH K vs H Q dY
theorem aez(F:fU K "do" "Hand.do" xg f fd)(J:MethAt P w K mg base 3 aq "value_of" ["self","part"] (yg aq 2 K))(M:MethAt P w K mg base 1 aq "take" ["self","box","number"] (Ab aq K))(O:MethAt P w K mg base 4 aq "holds" ["self","row"] (yX aq K))(i:fG K aq):bN P w K mg base ig 5 f fd ["self","row"] (Yl aq K):=by
 refine F.ok K3 (λL H Q E h=>?_) (λN A D s H L Q E p h=>?_)
 .obtain⟨A,s,v,r,m,rfl,_⟩:=h
  rfl
 .obtain⟨B,z,v,r,m,rfl,c,d,l,C,S,k⟩:=h
  refine⟨_,(aA (Bk (K:=K) rfl (pv 0) aG G3)
   (aJ (bY (bD dZ (aP (aX (K:=K) rfl) (pv 1) aG (λ_ _=>rfl)) bO (bh _)) (aJ (cL (cu M i.cls (p.mono DZ) (pv 0) (aj (aP (aX (K:=K) rfl) (pv 1) aG (λ_ _=>rfl)) (aj (cu J i.cls (p.mono DZ) (pv 0) (aj (aP (aX (K:=K) rfl) (pv 1) aG (λ_ _=>rfl)) au)) au))))) (aJ (bY (bD dZ (aP (aX (K:=K) rfl) (pv 1) aG (λ_ _=>rfl)) bO (bh _)) (aJ (cL (fW (K:=K) rfl (bf (K:=K) rfl (pv 0) rfl) (aj (cu J i.cls (p.mono DZ) (pv 0) (aj (aP (aX (K:=K) rfl) (pv 1) aG (λ_ _=>rfl)) au)) au)))) (aJ (bY (PW.pt (mK (bD dZ (aP (aX (K:=K) rfl) (pv 1) aG (λ_ _=>rfl)) bO (bh _)) (lJ (fH (cX (cu O i.cls (p.mono DZ) (pv 0) (aj (pv 1) au))))))) (aJ (dz (K:=K) rfl (pv 0) (aP (aX (K:=K) rfl) (pv 1) (aaw Tr aG) (λ_ _=>rfl)) rfl)) bG))))))),?_⟩
  refine⟨_,Z,B.h,aq,B.hx,_,_,Z,c.h,i.cls,i.vA,Z,_,_,Z,Z,B.hx,_,c.h,(by show 5<1000;decide),?_⟩;rw[Bg];have a:=c.tZ (z.pos+1) z.st;have j:KH B H (upd H B.h (.ins aq B.hx (hF B.r ((z.pos+1:Nat):Int) B.b B.sy z.st))):=KH.tZ;have G:=d.keep (c.tup j) _ (G5 r);dsimp only;rw[show ((z.pos:Nat):Int)+1=((z.pos+1:Nat):Int) by lia];generalize (upd H B.h (.ins aq B.hx (hF B.r ((z.pos+1:Nat):Int) B.b B.sy z.st)))=H1 at a j G ⊢;obtain⟨t,R,rfl,g,o⟩:=Qf G;cases r with
  | load b I=>cases C
  | store I e=>cases C
  | swap b I e=>cases C
  | yL b e=>
    obtain⟨x,rfl,u⟩:=o;refine⟨_,Z,_,_,_,_,Z,Z,cC.of g,Z,Z,_,Z,?_⟩;refine cV (λ_=>?_) (λz=>adt (aaO rfl) z);refine⟨_,Z,B.h,B.hx,_,Z,a.h,Z,_,Z,_,_,_,_,Z,Z,cC.of g,Z,_,Z,B.h,B.hx,_,Z,a.h,Z,_,Z,_,_,_,_,Z,Z,cC.of g,Z,B,_,x,e,Z,a,u,l.2,RK e,?_⟩;exact⟨B,_,b,_,Z,a,l.1,k _ (a.Ul _ (by rw[acF];exact a.bl)) (j.trans KH.Ul)⟩
  | say e=>
    obtain⟨x,rfl,u⟩:=o;refine⟨_,Z,_,_,_,_,Z,Z,cC.of g,Z,Z,_,Z,?_⟩;refine cV (λz=>adt (aaQ z) DZ) (λ_=>?_);refine⟨_,Z,_,_,_,_,Z,Z,cC.of g,Z,Z,_,Z,?_⟩;refine cV (λ_=>?_) (λz=>adt (aaO rfl) z);refine⟨_,Z,B.h,aq,B.hx,_,_,Z,a.h,i.cls,i.kY,Z,.inl ⟨Z,_,bF.of a.y⟩,_,Z,B.h,B.hx,_,Z,a.h,Z,_,Z,_,_,_,_,Z,Z,cC.of g,Z,B,_,x,e,Z,a,u,l,RK e,?_⟩;refine⟨_,_,_,Z,Z,a.y,(by rw[aak,sizeLine_eq];show z.sy.length<_;lia),?_⟩;have:=k _ (a.abw (z.sy++[vx z.bs e])) (j.trans KH.abw);rw[abd] at this;exact this
  | go n=>
    obtain rfl:=o;refine⟨_,Z,_,_,_,_,Z,Z,cC.of g,Z,Z,_,Z,?_⟩;refine cV (λz=>adt (aaQ z) DZ) (λ_=>?_);refine⟨_,Z,_,_,_,_,Z,Z,cC.of g,Z,Z,_,Z,?_⟩;refine cV (λz=>adt (aaQ z) DZ) (λ_=>?_);refine⟨_,Z,_,_,_,_,Z,Z,cC.of g,Z,Z,_,Z,?_⟩;refine cV (λ_=>?_) (λz=>adt (aaO rfl) z);refine eO ?_;refine⟨_,Z,_,Z,_,_,_,_,Z,Z,cC.of g,Z,_,Z,B.h,aq,B.hx,_,Z,a.h,i.cls,i.vA,(by show 5<1000;decide),?_⟩;rw[Bg];exact k _ (a.tZ n z.st) (j.trans KH.tZ)
  | Dd q e f n=>
    obtain⟨x,y,rfl,u,T⟩:=o;refine⟨_,Z,_,_,_,_,Z,Z,cC.of g,Z,Z,_,Z,?_⟩;refine cV (λz=>adt (aaQ z) DZ) (λ_=>?_);refine⟨_,Z,_,_,_,_,Z,Z,cC.of g,Z,Z,_,Z,?_⟩;refine cV (λz=>adt (aaQ z) DZ) (λ_=>?_);refine⟨_,Z,_,_,_,_,Z,Z,cC.of g,Z,Z,_,Z,?_⟩;refine cV (λz=>adt (aaQ z) DZ) (λ_=>?_);refine⟨_,Z,B.h,B.hx,_,Z,a.h,Z,_,Z,B,_,_,q,e,f,n,Z,a,G,l.1,l.2,_,Z,?_⟩;cases hh:xO z.bs (.Dd q e f n) with
    | true=>
      refine cW ?_;refine k _ ?_ j;show pU aq H1 B {z with pos:=if xO z.bs (.Dd q e f n) then z.pos+1 else n};rw[hh];exact a
    | false=>
      refine eO ?_;refine⟨_,Z,_,Z,_,_,_,_,Z,Z,cC.of g,Z,_,Z,B.h,aq,B.hx,_,Z,a.h,i.cls,i.vA,(by show 5<1000;decide),?_⟩;rw[Bg];refine k _ ?_ (j.trans KH.tZ);show pU aq _ B {z with pos:=if xO z.bs (.Dd q e f n) then z.pos+1 else n};rw[hh];exact a.tZ n z.st
def fM(H:Hp)(r:Addr)(m:Nat)(a:List Rw):Prop:=∃b,H r=some (.lst b)/\aV H b (a.map ou)/\(∀x∈a,Jc m x)/\a.length<=1000
def JC(a:List Rw):qX (a.map ou)=true:=cI ou G5 a
theorem fM.keep{H H':Hp}{r:Addr}{m:Nat}{a:List Rw}(h:fM H r m a)(k:∀o,H r=some o->H' r=some o)(t:∀x xs,H x=some (.tup xs)->H' x=some (.tup xs)):fM H' r m a:=by obtain⟨b,e,d,q⟩:=h;exact⟨b,k _ e,d.keep t _ (JC a),q⟩
def fM.same{r:Addr}{a:List Rw}(h:fM H r m a)(k:Same H H'):fM H' r m a:=h.keep (λo e=>k _ _ e) k.tups
inductive Ac(CH:Addr)(K:zzy)(vs:List V)(H:Hp)(Q:VK)(dY:XK):Prop|m:∀(A:qj)(s:bJ)(m:Nat),vs=[.ref A.h]->pU CH H A s->fM H A.r m s.rws->A.r≠A.b->A.r≠A.sy->s.sy.length<900000->(∀H',pU CH H' A (lead s)->KH A H H'->Q .non H')->Ac CH K vs H Q dY
theorem Ze(F:fU K "lead_on" "Hand.lead_on" lF f fd)(xZ:FnAt P w K mg base 1 "cell_of" ["row"] (uY K))(Sv:MethAt P w K mg base 5 aq "do" ["self","row"] (Yl aq K))(a:fG K aq)(W:Gv mg "MOST_UNTOUCHING" (.int 60))(Bt:lZ mg):bN P w K mg base ig 6 f fd ["self"] (Ac aq K):=by
 refine F.ok jX (λvs H Q E h=>?_) (λa1 A D s H vs Q E U h=>?_)
 .obtain⟨A,s,m,rfl,_⟩:=h
  rfl
 .obtain⟨B,s,m,rfl,c,R,J,G,sl,k⟩:=h
  refine⟨_,(aA (bH (i:=1) jX.nd rfl (Or.inl rfl) aG)
   (aA (U6 PassesOwn.never (PW.pt (xu (bD tV (bf (K:=K) rfl (pv 0) rfl) (aU (aW (K:=K) rfl) oZR Bt.dR cH (aj (bf (K:=K) rfl (pv 0) rfl) au)) (bh _)) (vp (bD Gz (bK xZ (U.mono DZ) oZR (aj (aP (aO (K:=K) rfl) (bf (K:=K) rfl (pv 0) rfl) (bf (K:=K) rfl (pv 0) rfl) (λ_ _=>rfl)) au)) j7 (bh _))))) (aA (bY (bD dZ (pv 1) (jH oZR W.choose_spec.1 W.choose_spec.2) (bh _)) (aA (dz (K:=K) rfl (pv 0) bO rfl)
   (aJ YD)) bG)
   (aA (cL (cu Sv a.cls (U.mono DZ) (pv 0) (aj (aP (aO (K:=K) rfl) (bf (K:=K) rfl (pv 0) rfl) (bf (K:=K) rfl (pv 0) rfl) (λ_ _=>rfl)) au)))
   (aJ (abJ (i:=1) jX.nd rfl (Or.inl rfl) aG G3)))))
   (aJ (dz (K:=K) rfl (pv 0) (lM (bD tV (bf (K:=K) rfl (pv 0) rfl) (aU (aW (K:=K) rfl) oZR Bt.dR cH (aj (bf (K:=K) rfl (pv 0) rfl) au)) (bh _)) bO bO) rfl)))),?_⟩
  have I:B.r≠B.h:=by obtain⟨t,e,_⟩:=R;exact dG e c.h ZN
  refine⟨λn N H1=>∃(d:Nat) (z:bJ),N=[some (.ref B.h),some (.int d)]/\d<=60/\n=60-d/\pU aq H1 B z/\KH B H H1/\led (60-d) z=lead s/\z.rws=s.rws/\z.sy.length<=s.sy.length+d,
   ⟨60,0,s,Z,DZ,Z,c,KH.of_same (Same.refl _),Z,Z,aav _⟩,λn N H1 M=>?_⟩
  obtain⟨d,z,rfl,a0,rfl,j,x,y,O,zs⟩:=M
  have R1:fM H1 B.r m z.rws:=by rw[O];exact R.keep (λo e=>x _ _ e I J G) (c.tup x)
  obtain⟨t,g,l,ro,rl⟩:=R1;have ln:t.length=z.rws.length:=by rw[l.length,aak]
  refine⟨_,Z,B.h,aq,B.hx,_,_,Z,j.h,a.cls,a.vA,Z,_,Z,B.h,aq,B.hx,_,_,Z,j.h,a.cls,a.qT,Z,B.r,_,Z,.inl (bF.of g),_,_,Z,Z,_,Z,?_⟩;cases er:z.rws[z.pos]? with
  | none=>
    have ge:z.rws.length<=z.pos:=List.getElem?_eq_none_iff.mp er;have lf:¬decide (((z.pos:Nat):Int)<((t.length:Nat):Int))=true:=by rw[ln];simp;lia
    refine cV (λq=>adt q lf) (λ_=>?_);refine cW ?_;refine⟨_,Z,B.h,aq,B.hx,_,_,Z,j.h,a.cls,a.vA,Z,_,Z,B.h,aq,B.hx,_,_,Z,j.h,a.cls,a.qT,Z,B.r,_,Z,.inl (bF.of g),_,_,Z,Z,_,Z,?_⟩;refine cV (λq=>adt q lf) (λ_=>?_);refine⟨_,Z,B.h,aq,B.hx,_,Z,j.h,a.cls,a.jJ,(by show 5<1000;decide),?_⟩;rw[Gu];refine k _ ?_ (x.trans KH.tZ)
    have:lead s={z with st:= "ends" }:=by rw[←y];cases e60:60-d<;>simp only[led,er]
    rw[this];exact j.tZ z.pos "ends"
  | some r=>
    have lt:z.pos<z.rws.length:=(aam.mp er).1;have T:decide (((z.pos:Nat):Int)<((t.length:Nat):Int))=true:=by rw[ln];simp;lia
    obtain⟨v,ev,Y⟩:=l.getD (i:=z.pos) (d:=ou r) (by rw[aap,er];rfl);refine cV (λ_=>?_) (λq=>adt T q);refine⟨_,Z,B.h,aq,B.hx,_,_,Z,j.h,a.cls,a.qT,Z,_,Z,B.h,aq,B.hx,_,_,Z,j.h,a.cls,a.vA,Z,_,_,_,_,Z,Z,bF.of g,cj ev,v,r,Z,Y,λH2 u=>⟨Z,_,Z,?_⟩⟩;have b:=j.same u;have p:=u _ _ g;have L:=x.trans (KH.of_same (A:=B) u);cases tr:touch r with
    | true=>
      refine cV (λq=>adt (aaQ q) (by unfold JZ;rw[adq tr];intro z;cases z)) (λ_=>?_);refine⟨_,Z,B.h,aq,B.hx,_,_,Z,b.h,a.cls,a.vA,Z,_,Z,B.h,aq,B.hx,_,_,Z,b.h,a.cls,a.qT,Z,B.r,_,Z,.inl (bF.of p),_,_,Z,Z,_,Z,?_⟩;refine cV (λ_=>?_) (λq=>adt T q);refine⟨_,Z,B.h,aq,B.hx,_,Z,b.h,a.cls,a.jJ,(by show 5<1000;decide),?_⟩;rw[Gu];refine k _ ?_ (L.trans KH.tZ)
      have:lead s={z with st:= "waits" }:=by rw[←y];cases e60:60-d<;>simp only[led,er,tr,if_true]
      rw[this];exact b.tZ z.pos "waits"
    | false=>
      refine cV (λ_=>?_) (λq=>adt (aaO (by unfold JZ;rw[adp (by rw[tr];decide)])) q);refine⟨λC H'=>∃S,S<60-d /\ ∃(d:Nat) (z:bJ),C=[some (.ref B.h),some (.int d)]/\d<=60/\S=60-d/\pU aq H' B z/\KH B H H'/\led (60-d) z=lead s/\z.rws=s.rws/\z.sy.length<=s.sy.length+d,λ_ _ q=>q,?_⟩;refine⟨_,Z,Z,_,Z,?_⟩
      by_cases X:d=60
      .subst X
       refine cV (λ_=>?_) (λq=>adt (aaO rfl) q);refine⟨_,Z,B.h,aq,B.hx,_,Z,b.h,a.cls,a.jJ,(by show 5<1000;decide),?_⟩;rw[Gu];refine k _ ?_ (L.trans KH.tZ)
       have:lead s={z with st:= "lost" }:=by rw[←y];show led 0 z=_;simp only[led,er,tr];rfl
       rw[this];exact b.tZ z.pos "lost"
      .refine cV (λq=>adt (by have:=V.int.inj (aaQ q);lia) X) (λ_=>?_)
       refine⟨_,Z,B.h,B.hx,_,Z,b.h,Z,_,Z,B.h,aq,B.hx,_,_,Z,b.h,a.cls,a.qT,Z,_,Z,B.h,aq,B.hx,_,_,Z,b.h,a.cls,a.vA,Z,_,_,_,_,Z,Z,bF.of p,cj ev,B,z,v,r,m,Z,b,Y.same u _,ro r (aaN er),tr,LZ,λH3 c3 k3=>?_⟩;refine⟨_,Z,_,_,Z,Z,60-(d+1),LZ,d+1,yu z r,Z,LZ,Z,c3,L.trans k3,?_,by rw[E_,O],?_⟩
       .rw[←y,show 60-d=(60-(d+1))+1 by lia]
        simp only[led,er,tr];rfl
       .have:=JR z r
        lia
def wF(b c hs a:Addr):List (Str×V):=[("program",.ref b),("numbers",.ref c),("hands",.ref hs),("turns",.ref a)]
def qR(m:Int)(ns:List Int):Prop:=(ns.length:Int)=m /\ ∀x∈ns,0<=x/\x<1000
inductive o7(CN:Addr)(K:zzy)(vs:List V)(H:Hp)(Q:VK)(E:XK):Prop|m:∀(cl:Addr)(m:Int)(ns:List Int),vs=[.ref cl,.int m]->H cl=some (.lst (ns.map V.int))->ns.length<=100->(qR m ns -> ∀H',Same H H'->Q .non H')->(¬qR m ns -> ∀H',Same H H'->E (.ref CN) none H')->o7 CN K vs H Q E
theorem Jj(F:fU K "check_numbers" "check_numbers" jY f fd)(M:FnAt P w K mg base 2 "is_below" ["value","count"] (rY K))(t:Gv mg "ROUND" (.int 1000))(j:lZ mg)(d:Xr K mg bW "NoNumber"):bN P w K mg base (tM P w) 3 f fd ["cells","count"] (o7 bW K):=by
 refine F.Xv wR (λB H Q E h=>?_) (λO A l s H B Q E J h u=>?_)
 .obtain⟨cl,m,a,rfl,_⟩:=h
  rfl
 .obtain⟨cl,m,a,rfl,e,nl,I,r⟩:=h
  refine⟨_,(aA (bY (PW.pt (mK (fH (cX (aU (cT (K:=K) (cv:= .ty "list") (c:= .type "list") rfl rfl) oZR j.bM bL (aj (pv 0) (aj (fO (v:= .ty "list") oZR j.gP fu rfl) au))))) (lJ (bD oG (aU (aW (K:=K) rfl) oZR j.dR cH (aj (pv 0) au)) (pv 1) (bh _))))) (aJ (lK PySem.F.excBase_ValueError d.ex d.bd oZR rfl rfl u (aj bO au))) bG)
   (aJ (bY (fH (cX (aU (gA (K:=K) rfl rfl) oZR j.Kf Cq (aj (dB rfl (N:=["number"]) (own:=["number"]) (caps:=[]) (bA.of (by kernel_rfl)) (cQ (K:=K) rfl (pv 0)) (λ_ _ _ _=>(bI (i:=0) (show List.Nodup (["number"]:List Str) by decide +kernel) rfl (Or.inl rfl))) (λ_ _ _ _=>cO) (λ_ _ _ _=>(bK M (J.mono DZ) oZR (aj (pv 0) (aj (jH oZR t.choose_spec.1 t.choose_spec.2) au))))) au)))) (aJ (lK PySem.F.excBase_ValueError d.ex d.bd oZR rfl rfl u (aj bO au))) bG))),?_⟩
  refine⟨_,Z,_,_,true,Z,.lst e,jL K,true,Z,?_⟩;refine cW ?_;refine⟨_,Z,cl,_,Z,.inl (bF.of e),_,Z,Z,_,Z,?_⟩;rw[aak]
  by_cases g:(a.length:Int)=m
  rotate_left
  .refine cV (λ_=>?_) (λz=>adt (by simp[g]) z)
   exact⟨sZ1,r (λz=>g z.1) H (Same.refl _)⟩
  refine vI (by rw[g]) ?_;refine⟨_,Z,cl,Z,⟨_,bF.of e⟩,λD L=>?_⟩;refine lR (K:=K) (λi=>(a[i]?).map λx=>V.bl (decide (ux x 1000))) L (bF.of e) (by rw[aak];lia) (λi v H2 G F b k R C=>?_) (λH2 k y=>?_)
  .rw[aap] at b
   cases ei:a[i]? with
   | none=>rw[ei] at b;cases b
   | some z=>
     rw[ei] at b;cases b;exact⟨_,Z,z,1000,Z,C _ H2 (Same.refl _) (by rw[ei];rfl)⟩
  rw[aak,Pz] at y;refine⟨D,a.map (λx=>decide (ux x 1000)),Z,bF.of (by rw[y,acr];rfl),_,Z,?_⟩
  by_cases al:∀x∈a,ux x 1000
  .have q:(a.map (λx=>decide (ux x 1000))).all id=true:=by rw[List.all_map,List.all_eq_true];intro h o;exact aaO (al h o)
   rw[q];refine cW ?_;exact I ⟨g,λx n=>al x n⟩ H2 k
  .have q:(a.map (λx=>decide (ux x 1000))).all id=false:=by rw[List.all_map,←Bool.not_eq_true,List.all_eq_true];intro z;exact al λh o=>aaQ (p:=ux h 1000) (z h o)
   rw[q];refine eO ?_;exact⟨sZ1,r (λz=>al λx n=>z.2 x n) H2 k⟩
inductive rT(CW CH:Addr)(K:zzy)(vs:List V)(H:Hp)(Q:VK)(dY:XK):Prop|m:∀(o dx pg nb hl tn:Addr)(A:qj)(s:bJ)(m:Nat)(ns:List Int)(r:Rw),vs=[.ref o,.ref A.h]->H o=some (.ins CW dx (wF pg nb hl tn))->H nb=some (.lst (ns.map V.int))->ns.length=m->pU CH H A s->fM H A.r m s.rws->s.rws[s.pos]?=some r->touch r=true->nb≠A.b->nb≠A.sy->(∀t H',H t=none->H' t=some (.tup (zY ns s.bs r))->pU CH H' A {s with bs:=uG ns s.bs r}->H' nb=some (.lst ((dW ns s.bs r).map V.int))->(∀x u,H x=some u->x≠nb->x≠A.b->H' x=some u)->Q (.ref t) H')->rT CW CH K vs H Q dY
theorem Lb(F:fU K "touch_by" "Works.touch_by" ju f fd)(xZ:FnAt P w K mg base 1 "cell_of" ["row"] (uY K))(cF:MethAt P w K mg base 3 aq "value_of" ["self","part"] (yg aq 2 K))(rK:MethAt P w K mg base 1 aq "take" ["self","box","number"] (Ab aq K))(N:cD K ak)(X:fG K aq):bN P w K mg base ig 4 f fd ["self","one"] (rT ak aq K):=by
 refine F.ok eX (λvs H Q E h=>?_) (λb0 A a3 s H vs Q E hr h=>?_)
 .obtain⟨o,dx,pg,I,hl,tn,A,s,m,l,r,rfl,_⟩:=h
  rfl
 .obtain⟨o,dx,pg,I,hl,tn,B,z,m,l,r,rfl,ho,a6,nl,c,R,er,tr,L,a1,k⟩:=h
  refine⟨_,(aA (bH (i:=2) eX.nd rfl (Or.inl rfl) (aP (aO (K:=K) rfl) (bf (K:=K) rfl (pv 1) rfl) (bf (K:=K) rfl (pv 1) rfl) (λ_ _=>rfl)))
   (aA (bH (i:=3) eX.nd rfl (Or.inl rfl) (bK xZ (hr.mono DZ) oZR (aj (pv 2) au)))
   (aA (bH (i:=4) eX.nd rfl (Or.inl rfl) (lM (bD dZ (aP (aX (K:=K) rfl) (pv 2) aG (λ_ _=>rfl)) bO (bh _)) j7 (aP (aO (K:=K) rfl) (bf (K:=K) rfl (pv 0) rfl) (pv 3) (λ_ _=>rfl))))
   (aA (bH (i:=5) eX.nd rfl (Or.inl rfl) (lM (bD dZ (aP (aX (K:=K) rfl) (pv 2) aG (λ_ _=>rfl)) bO (bh _)) j7 (cu cF X.cls (hr.mono DZ) (pv 1) (aj (aP (aX (K:=K) rfl) (pv 2) (aaw Tr aG) (λ_ _=>rfl)) au))))
   (aA (bY (bD Ou (pv 4) j7 (bh _)) (aJ (cL (cu rK X.cls (hr.mono DZ) (pv 1) (aj (aP (aX (K:=K) rfl) (pv 2) aG (λ_ _=>rfl)) (aj (pv 4) au))))) bG)
   (aA (bY (bD Ou (pv 5) j7 (bh _)) (aJ (pH (pv 5) (qP (bf (K:=K) rfl (pv 0) rfl) (pv 3) set_list))) bG)
   (aJ (aZ (dI (aj (aP (aX (K:=K) rfl) (pv 2) aG (λ_ _=>rfl)) (aj (pv 3) (aj (pv 4) (aj (pv 5) au))))))))))))),?_⟩
  obtain⟨ts,a5,a7,ro,rl⟩:=R;obtain⟨v,ev,dv⟩:=a7.getD (i:=z.pos) (d:=ou r) (by rw[aap,er];rfl);have J:=ro r (aaN er);refine⟨_,Z,B.h,aq,B.hx,_,_,Z,c.h,X.cls,X.qT,Z,_,Z,B.h,aq,B.hx,_,_,Z,c.h,X.cls,X.vA,Z,_,_,_,_,Z,Z,bF.of a5,cj ev,?_⟩;refine⟨_,Z,v,r,Z,dv,λH1 G=>?_⟩;have g:=c.same G;have C:=G _ _ ho;have M:=G _ _ a6;obtain⟨t,ws,rfl,y,ps⟩:=Qf (dv.same G _);have a9:o≠I:=dG C M ZN;have a4:o≠B.b:=dG C g.b ZN;have a0:t≠B.b:=dG y g.b ZN;have Y:t≠I:=dG y M ZN;have cellOf:∀a,a<m->l[a]?=some ((l[a]?).getD 0):=λa h=>by rw[aal LZ];rfl
  have cellAt:∀a,a<m->(l.map V.int)[a]?=some (.int ((l[a]?).getD 0)):=λa h=>by rw[aap,cellOf a h];rfl
  have a2:∀a,a<m->Rj (l.map V.int).length ((a:Nat):Int)=some a:=λa h=>by rw[aak];unfold Rj;rw[adq LZ,adq LZ];simp
  cases r with
  | load b a=>
    obtain rfl:=ps;refine⟨_,Z,_,_,_,_,Z,Z,cC.of y,Z,Z,_,Z,?_⟩;refine cV (λz=>adt (aaQ z) DZ) (λ_=>?_);refine⟨_,Z,o,ak,dx,_,_,Z,C,N.cls,N.jB,Z,_,Z,_,_,_,_,Z,Z,bF.of M,cj (cellAt a J.2),?_⟩;refine⟨_,Z,_,_,_,_,Z,Z,cC.of y,Z,Z,_,Z,?_⟩;refine cV (λ_=>?_) (λz=>adt (aaO rfl) z);refine⟨_,Z,Z,_,Z,?_⟩;refine eO ?_;refine⟨_,Z,B.h,B.hx,_,Z,g.h,Z,_,Z,_,_,_,_,Z,Z,cC.of y,Z,_,Z,B,z,b,_,Z,g,J.1,?_⟩;refine⟨_,Z,Z,_,Z,?_⟩;refine cW ?_;have T:=g.Ul (z.bs.set b ((l[a]?).getD 0)) (by rw[acF];exact g.bl);refine⟨_,Z,_,_,_,_,Z,Z,cC.of (by rw[aF a0];exact y),Z,_,Z,_,Z,_,Z,sZ4,λp j=>?_⟩;have D:=aH (o:=HO.tup [V.str (Str.ofString "load"),V.int a,V.int ((l[a]?).getD 0),V.non]) j;refine k p _ ?_ ?_ (T.same D) (D _ _ (by rw[aF L];exact M)) ?_
    .refine G.free ?_
     have:p≠B.b:=λe=>by rw[e,ao] at j;cases j
     rw[aF this] at j;exact j
    .rw[ao]
     show some (HO.tup [V.str (Str.ofString "load"),V.int a,V.int ((l[a]?).getD 0),V.non])=some (HO.tup [V.str (Str.ofString "load"),V.int a,oV (l[a]?),V.non]);rw[cellOf a J.2];rfl
    .intro x u e W U
     exact D _ _ (by rw[aF U];exact G _ _ e)
  | store a e=>
    obtain⟨x,rfl,S⟩:=ps;refine⟨_,Z,_,_,_,_,Z,Z,cC.of y,Z,Z,_,Z,?_⟩;refine cV (λ_=>?_) (λz=>adt (aaO rfl) z);refine⟨_,Z,_,_,_,_,Z,Z,cC.of y,Z,Z,_,Z,?_⟩;refine cV (λz=>adt (aaQ z) DZ) (λ_=>?_);refine⟨_,Z,B.h,B.hx,_,Z,g.h,Z,_,Z,_,Z,_,_,_,_,Z,Z,cC.of y,Z,B,z,x,e,Z,g,S,J.2,RK e,?_⟩;refine⟨_,Z,Z,_,Z,?_⟩;refine cW ?_;refine⟨_,Z,Z,_,Z,?_⟩;refine eO ?_;refine⟨_,Z,_,Z,o,ak,dx,_,_,Z,C,N.cls,N.jB,Z,_,Z,I,_,_,a,Z,Z,M,a2 a J.1,?_⟩;rw[←List.map_set];refine⟨_,Z,_,_,_,_,Z,Z,cC.of (by rw[aF Y];exact y),Z,_,Z,_,Z,_,Z,sZ4,λp j=>?_⟩;have D:=aH (o:=HO.tup [V.str (Str.ofString "store"),V.int a,V.non,V.int (vx z.bs e)]) j;have O:B.h≠I:=dG g.h M ZN;refine k p _ ?_ ao (pU.same ⟨by rw[aF O];exact g.h,by rw[aF L.symm];exact g.b,by rw[aF a1.symm];exact g.y,g.Q6,g.bl⟩ D) (D _ _ ao) ?_
    .refine G.free ?_
     have:p≠I:=λe=>by rw[e,ao] at j;cases j
     rw[aF this] at j;exact j
    .intro x u e W U
     exact D _ _ (by rw[aF W];exact G _ _ e)
  | swap b a e=>
    obtain⟨x,rfl,S⟩:=ps;refine⟨_,Z,_,_,_,_,Z,Z,cC.of y,Z,Z,_,Z,?_⟩;refine cV (λz=>adt (aaQ z) DZ) (λ_=>?_);refine⟨_,Z,o,ak,dx,_,_,Z,C,N.cls,N.jB,Z,_,Z,_,_,_,_,Z,Z,bF.of M,cj (cellAt a J.2.1),?_⟩;refine⟨_,Z,_,_,_,_,Z,Z,cC.of y,Z,Z,_,Z,?_⟩;refine cV (λz=>adt (aaQ z) DZ) (λ_=>?_);refine⟨_,Z,B.h,B.hx,_,Z,g.h,Z,_,Z,_,Z,_,_,_,_,Z,Z,cC.of y,Z,B,z,x,e,Z,g,S,J.2.2,RK e,?_⟩;refine⟨_,Z,Z,_,Z,?_⟩;refine eO ?_;refine⟨_,Z,B.h,B.hx,_,Z,g.h,Z,_,Z,_,_,_,_,Z,Z,cC.of y,Z,_,Z,B,z,b,_,Z,g,J.1,?_⟩;refine⟨_,Z,Z,_,Z,?_⟩;refine eO ?_;have T:=g.Ul (z.bs.set b ((l[a]?).getD 0)) (by rw[acF];exact g.bl);have a8:(upd H1 B.b (.lst ((z.bs.set b ((l[a]?).getD 0)).map V.int))) I=some (.lst (l.map V.int)):=by rw[aF L];exact M
    refine⟨_,Z,_,Z,o,ak,dx,_,_,Z,(by rw[aF a4];exact C),N.cls,N.jB,Z,_,Z,I,_,_,a,Z,Z,a8,a2 a J.2.1,?_⟩;rw[←List.map_set];refine⟨_,Z,_,_,_,_,Z,Z,cC.of (by rw[aF Y,aF a0];exact y),Z,_,Z,_,Z,_,Z,sZ4,λp j=>?_⟩;have D:=aH (o:=HO.tup [V.str (Str.ofString "swap"),V.int a,V.int ((l[a]?).getD 0),V.int (vx z.bs e)]) j;have O:B.h≠I:=dG g.h M ZN;refine k p _ ?_ ?_ (pU.same ⟨by rw[aF O];exact T.h,by rw[aF L.symm];exact T.b,by rw[aF a1.symm];exact T.y,T.Q6,T.bl⟩ D) (D _ _ ao) ?_
    .refine G.free ?_
     have W:p≠I:=λe=>by rw[e,ao] at j;cases j
     rw[aF W] at j;have U:p≠B.b:=λe=>by rw[e,ao] at j;cases j
     rw[aF U] at j;exact j
    .rw[ao]
     show some (HO.tup [V.str (Str.ofString "swap"),V.int a,V.int ((l[a]?).getD 0),V.int (vx z.bs e)])=some (HO.tup [V.str (Str.ofString "swap"),V.int a,oV (l[a]?),V.int (vx z.bs e)]);rw[cellOf a J.2.1];rfl
    .intro x u e W U
     exact D _ _ (by rw[aF W,aF U];exact G _ _ e)
  | yL b e=>cases tr
  | say e=>cases tr
  | go n=>cases tr
  | Dd q e f n=>cases tr
structure rE where
 (o dx pg L nb hl tn:Addr) (rs:List Addr) (hd:List qj)
structure yR(CH:Addr)(i k m:Nat)(τ:Tg)(H:Hp)(A:qj)(s:bJ):Prop where
 c:pU CH H A s
 r:fM H A.r m s.rws
 tr:τ A.r=[0]
 th:τ A.h=[i,4,k]
 tb:τ A.b=[i,5,k]
 ty:τ A.sy=[i,6,k]
structure j9(CW CH:Addr)(i:Nat)(τ:Tg)(H:Hp)(W:rE)(S:dD):Prop where
 un:rF τ H
 i0:i≠0
 o:H W.o=some (.ins CW W.dx (wF W.pg W.nb W.hl W.tn))
 pg:H W.pg=some (.tup [.int S.m,.ref W.L])
 L:H W.L=some (.lst (W.rs.map V.ref))
 nb:H W.nb=some (.lst (S.ns.map V.int))
 hl:H W.hl=some (.lst (W.hd.map λa=> .ref a.h))
 tn:H W.tn=some (.lst (S.ts.map V.int))
 to:τ W.o=[i,0]
 tb:τ W.nb=[i,1]
 tl:τ W.hl=[i,2]
 tt:τ W.tn=[i,3]
 tL:τ W.L=[0]
 rl:W.rs.length=S.hs.length
 rs:∀(k:Nat)(r:Addr)(s:bJ),W.rs[k]?=some r->S.hs[k]?=some s->τ r=[0]/\fM H r S.m s.rws
 len:W.hd.length=S.hs.length
 hd:∀(k:Nat)(A:qj)(s:bJ),W.hd[k]?=some A->S.hs[k]?=some s->yR CH i k S.m τ H A s
 ok:∀s∈S.hs,tG s
 sl:∀s∈S.hs,s.sy.length<=60*(S.ts.length+1)
 nl:S.ns.length=S.m
 hn:S.hs.length<=100
section
variable{W:rE}
def yR.mv{A:qj}{s:bJ}(h:yR CH i k m τ H A s)(q:Mv i τ H τ' H'):yR CH i k m τ' H' A s:=by obtain⟨⟨w,v,u,t,p⟩,r,a,b,c,ty⟩:=h;have g:=q.keep _ _ w (.inr (by rw[b];rfl));have f:=q.keep _ _ v (.inr (by rw[c];rfl));have d:=q.keep _ _ u (.inr (by rw[ty];rfl));have j:=r;obtain⟨x,l,_⟩:=j;have n:=q.keep _ _ l (.inl a);exact⟨⟨g.1,f.1,d.1,t,p⟩,r.keep (λo e=>(q.keep _ _ e (.inl a)).1) q.tup,n.2.trans a,g.2.trans b,f.2.trans c,d.2.trans ty⟩
def Oh{r:Addr}{a:List Rw}(h:τ r=[0]/\fM H r m a)(q:Mv i τ H τ' H'):τ' r=[0]/\fM H' r m a:=by obtain⟨t,R⟩:=h;have b:=R;obtain⟨f,c,_⟩:=b;have d:=q.keep _ _ c (.inl t);exact⟨d.2.trans t,R.keep (λo e=>(q.keep _ _ e (.inl t)).1) q.tup⟩
theorem j9.mv(w:j9 CW CH i τ H W S)(q:Mv i τ H τ' H')(u:rF τ' H'):j9 CW CH i τ' H' W S:=by have g:=q.keep _ _ w.o (.inr (by rw[w.to];rfl));have f:=q.keep _ _ w.nb (.inr (by rw[w.tb];rfl));have e:=q.keep _ _ w.hl (.inr (by rw[w.tl];rfl));have d:=q.keep _ _ w.tn (.inr (by rw[w.tt];rfl));have c:=q.keep _ _ w.L (.inl w.tL);exact⟨u,w.i0,g.1,q.tup _ _ w.pg,c.1,f.1,e.1,d.1,g.2.trans w.to,f.2.trans w.tb,e.2.trans w.tl,d.2.trans w.tt,c.2.trans w.tL,w.rl,λk r s b a=>Oh (w.rs k r s b a) q,w.len,λk A s b a=>(w.hd k A s b a).mv q,w.ok,w.sl,w.nl,w.hn⟩
theorem j9.same(w:j9 CW CH i τ H W S)(k:Same H H'):j9 CW CH i τ H' W S:=w.mv (Mv.of_same k) (w.un.same k)
def j9.hand{s:bJ}(w:j9 CW CH i τ H W S)(h:S.hs[k]?=some s):∃A,W.hd[k]?=some A/\yR CH i k S.m τ H A s:=by
 have:k<W.hd.length:=by rw[w.len];exact(aam.mp h).1
 exact⟨W.hd[k],by simp[this],w.hd k _ _ (by simp[this]) h⟩
end
inductive lq(CW CH CN:Addr)(K:zzy)(vs:List V)(H:Hp)(Q:VK)(E:XK):Prop|m:∀(i:Nat)(τ:Tg)(W:rE)(S:dD)(h:Int),vs=[.ref W.o,.int h]->j9 CW CH i τ H W S->(∀(k:Nat)(A:qj)(s:bJ),h=k->W.hd[k]?=some A->S.hs[k]?=some s->Q (.ref A.h) H)->(¬ux h S.hs.length->E (.ref CN) none H)->lq CW CH CN K vs H Q E
def QV(F:fU K "hand_of" "Works.hand_of" j4 f fd)(t:FnAt P w K mg base 2 "is_below" ["value","count"] (rY K))(c:cD K ak)(v:lZ mg)(g:Xr K mg bw "NoHand"):bN P w K mg base (tM P w) 3 f fd ["self","hand"] (lq ak aq bw K):=by
 refine F.Xv wU (λm H Q E h=>?_) (λu A d s H m Q E q h r=>?_)
 .obtain⟨i,l,W,S,h,rfl,_⟩:=h
  rfl
 .obtain⟨i,l,W,S,h,rfl,w,p,o⟩:=h
  refine⟨_,(aA (bY (fH (cX (bK t (q.mono DZ) oZR (aj (pv 1) (aj (aU (aW (K:=K) rfl) oZR v.dR cH (aj (bf (K:=K) rfl (pv 0) rfl) au)) au))))) (aJ (lK PySem.F.excBase_ValueError g.ex g.bd oZR rfl rfl r (aj bO au))) bG)
   (aJ (aZ (aP (aO (K:=K) rfl) (bf (K:=K) rfl (pv 0) rfl) (pv 1) (λ_ _=>rfl))))),?_⟩
  refine⟨_,Z,_,Z,W.o,ak,W.dx,_,_,Z,w.o,c.cls,c.mR,Z,W.hl,_,Z,.inl (bF.of w.hl),h,_,Z,_,Z,?_⟩;have e:(W.hd.map λa=>V.ref a.h).length=S.hs.length:=by rw[aak,w.len]
  by_cases b:ux h (W.hd.map λa=>V.ref a.h).length
  .rw[aaO b]
   refine cW ?_;obtain⟨n,rfl⟩:=adh b.1;have nl:n<S.hs.length:=by have:=b.2;rw[e] at this;lia
   have j:S.hs[n]?=some S.hs[n]:=by simp[nl]
   obtain⟨A,k,_⟩:=w.hand j;exact⟨_,Z,W.o,ak,W.dx,_,_,Z,w.o,c.cls,c.mR,Z,_,Z,_,_,_,_,Z,Z,bF.of w.hl,cj (by rw[aap,k];rfl),p n A _ rfl k j⟩
  .rw[aaP b]
   refine eO ?_;rw[e] at b;exact⟨sZ1,o b⟩
inductive uX(CW CH:Addr)(K:zzy)(vs:List V)(H:Hp)(Q:VK)(dY:XK):Prop|m:∀(i:Nat)(τ:Tg)(W:rE)(S:dD),vs=[.ref W.o]->j9 CW CH i τ H W S->(∀l H',H l=none->H' l=some (.lst (S.ns.map V.int))->Same H H'->Q (.ref l) H')->uX CW CH K vs H Q dY
def Vz(F:fU K "cells" "Works.cells" m6 f fd)(c:cD K ak)(j:lZ mg):bN P w K mg base ig 1 f fd ["self"] (uX ak aq K):=by
 refine F.ok Am (λe H Q E h=>?_) (λg A a s H e Q E m h=>?_)
 .obtain⟨i,d,W,S,rfl,_⟩:=h
  rfl
 .obtain⟨i,d,W,S,rfl,w,k⟩:=h
  refine⟨_,(aJ (aZ (dh (cA (K:=K) rfl) oZR j.gP fu (aj (bf (K:=K) rfl (pv 0) rfl) au)))),?_⟩;exact⟨_,Z,W.o,ak,W.dx,_,_,Z,w.o,c.cls,c.jB,Z,W.nb,_,Z,.inl (bF.of w.nb),λl b=>k l _ b ao (aH b)⟩
inductive yh(CW CH CN:Addr)(K:zzy)(vs:List V)(H:Hp)(Q:VK)(E:XK):Prop|m:∀(i:Nat)(τ:Tg)(W:rE)(S:dD)(h:Int),vs=[.ref W.o,.int h]->j9 CW CH i τ H W S->(∀(k:Nat)(s:bJ),h=k->S.hs[k]?=some s->Q (.str s.st) H)->(¬ux h S.hs.length->E (.ref CN) none H)->yh CW CH CN K vs H Q E
def ab3(F:fU K "how" "Works.how" qH f fd)(q:jM P w K mg base 3 ak "hand_of" ["self","hand"] (lq ak aq bw K))(t:cD K ak)(g:fG K aq):bN P w K mg base (tM P w) 4 f fd ["self","hand"] (yh ak aq bw K):=by
 refine F.Xv Gf (λj H Q E h=>?_) (λr A b s H j Q E n h o=>?_)
 .obtain⟨i,c,W,S,h,rfl,_⟩:=h
  rfl
 .obtain⟨i,c,W,S,h,rfl,w,m,l⟩:=h
  refine⟨_,(aJ (aZ (bf (K:=K) rfl (oE q t.cls rfl o (n.mono DZ) (pv 0) (aj (pv 1) au)) rfl))),?_⟩;refine⟨_,Z,W.o,W.dx,_,Z,w.o,Z,_,Z,i,c,W,S,h,Z,w,λk A s e p d=>?_,l⟩;have a:=w.hd k A s p d;exact⟨A.h,aq,A.hx,_,_,Z,a.c.h,g.cls,g.jJ,Z,m k s e d⟩
def yO(S:dD):List Int:=(List.range S.hs.length).map λk:Nat=>((S.ts.count (k:Int):Nat):Int)
inductive nY(CW CH:Addr)(K:zzy)(vs:List V)(H:Hp)(Q:VK)(dY:XK):Prop|m:∀(i:Nat)(τ:Tg)(W:rE)(S:dD),vs=[.ref W.o]->j9 CW CH i τ H W S->(∀l H',H l=none->H' l=some (.lst ((yO S).map V.int))->Same H H'->Q (.ref l) H')->nY CW CH K vs H Q dY
def QX(F:fU K "counts" "Works.counts" lB f fd)(c:cD K ak)(l:lZ mg):bN P w K mg base ig 1 f fd ["self"] (nY ak aq K):=by
 refine F.ok yI (λn H Q E h=>?_) (λq A d s H n Q E t h=>?_)
 .obtain⟨i,m,W,S,rfl,_⟩:=h
  rfl
 .obtain⟨i,m,W,S,rfl,w,k⟩:=h
  refine⟨_,(aJ (aZ (dB rfl (N:=["hand","self"]) (own:=["hand"]) (caps:=[0]) (bA.of (by kernel_rfl)) (cN oZR l.dH (aj (aU (aW (K:=K) rfl) oZR l.dR cH (aj (bf (K:=K) rfl (pv 0) rfl) au)) au)) (λ_ _ _ _=>(bI (i:=0) (show List.Nodup (["hand","self"]:List Str) by decide +kernel) rfl (Or.inl rfl))) (λ_ _ _ _=>cO) (λ_ _ _ _=>(xH (K:=K) rfl PySem.F.plainAttrs_list PySem.F.slot_list_count PySem.F.type_list_count (xJ (K:=K) rfl) (bf (K:=K) rfl (pv 1) rfl) (aj (pv 0) au)))))),?_⟩;have e:(W.hd.map λa=>V.ref a.h).length=S.hs.length:=by rw[aak,w.len]
  refine⟨_,Z,W.o,ak,W.dx,_,_,Z,w.o,c.cls,c.mR,Z,W.hl,_,Z,.inl (bF.of w.hl),_,Z,(by rw[e];have:=w.hn;lia),(by rw[e];have:=w.hn;lia),λD g=>?_⟩;rw[e,abf];refine sX (λj:Nat=>some (.int ((S.ts.count (j:Int):Nat):Int))) g (by have:=w.hn;lia) (λj H1 G F u b r o=>?_) (λH1 b p=>?_)
  .refine⟨_,Z,W.o,ak,W.dx,_,_,Z,b _ _ w.o,c.cls,c.sS,Z,.inl ⟨Z,_,bF.of (b _ _ w.tn)⟩,_,Z,_,S.ts,_,Z,Z,bF.of (b _ _ w.tn),o _ H1 (Same.refl _) (by rw[Int.zero_add])⟩
  .refine k D H1 g ?_ b
   rw[p];unfold yO;rw[acr,List.filterMap_eq_map'];rfl
inductive FQ(CW CH:Addr)(K:zzy)(vs:List V)(H:Hp)(Q:VK)(dY:XK):Prop|m:∀(i:Nat)(τ:Tg)(W:rE)(S:dD),vs=[.ref W.o]->j9 CW CH i τ H W S->Q (.int S.ts.length) H->FQ CW CH K vs H Q dY
def Y0(F:fU K "__len__" "Works.__len__" j5 f fd)(b:cD K ak)(g:lZ mg):bN P w K mg base ig 1 f fd ["self"] (FQ ak aq K):=by
 refine F.ok wV (λd H Q E h=>?_) (λe A a s H d Q E j h=>?_)
 .obtain⟨i,c,W,S,rfl,_⟩:=h
  rfl
 .obtain⟨i,c,W,S,rfl,w,k⟩:=h
  refine⟨_,(aJ (aZ (aU (aW (K:=K) rfl) oZR g.dR cH (aj (bf (K:=K) rfl (pv 0) rfl) au)))),?_⟩;refine⟨_,Z,W.o,ak,W.dx,_,_,Z,w.o,b.cls,b.sS,Z,W.tn,_,Z,.inl (bF.of w.tn),?_⟩;rw[aak];exact k
structure tK(C:List (List Nat))(τ:Tg)(H:Hp)(τ':Tg)(H':Hp):Prop where
 keep:∀x u,H x=some u->τ x∉C->H' x=some u/\τ' x=τ x
 tup:∀x xs,H x=some (.tup xs)->H' x=some (.tup xs)
def tK.of_same{C:List (List Nat)}(k:Same H H'):tK C τ H τ H':=⟨λx u e _=>⟨k _ _ e,Z⟩,k.tups⟩
def tK.claim{C:List (List Nat)}{t:List Nat}(k:Same H H')(a:H p=none):tK C τ H (aQ τ p t) H':=⟨λx u e _=>⟨k _ _ e,aR (aB e a)⟩,k.tups⟩
def tK.set{C:List (List Nat)}{x:Addr}{o u:HO}(b:τ x∈C)(a:H x=some o)(c:∀xs,o ≠ .tup xs):tK C τ H τ (upd H x u):=⟨λy v e n=>⟨by rw[aF (λz:y=x=>n (by rw[z];exact b))];exact e,Z⟩,λy xs e=>by rw[aF (dG e a λz=>c xs z.symm)];exact e⟩
def tK.trans{C:List (List Nat)}{H1 H2:Hp}(a:tK C τ H τ1 H1)(b:tK C τ1 H1 τ2 H2):tK C τ H τ2 H2:=⟨λx u e n=>by obtain⟨f,t1⟩:=a.keep x u e n;obtain⟨d,c⟩:=b.keep x u f (by rw[t1];exact n);exact⟨d,by rw[c,t1]⟩,λx g e=>b.tup _ _ (a.tup _ _ e)⟩
def yR.mvT{C:List (List Nat)}{A:qj}{s:bJ}(h:yR CH i k m τ H A s)(q:tK C τ H τ' H')(d:[0]∉C)(u:[i,4,k]∉C)(t:[i,5,k]∉C)(p:[i,6,k]∉C):yR CH i k m τ' H' A s:=by obtain⟨⟨B,z,y,x,w⟩,r,a,b,c,ty⟩:=h;have j:=q.keep _ _ B (by rw[b];exact u);have g:=q.keep _ _ z (by rw[c];exact t);have f:=q.keep _ _ y (by rw[ty];exact p);have l:=r;obtain⟨D,n,_⟩:=l;have v:=q.keep _ _ n (by rw[a];exact d);exact⟨⟨j.1,g.1,f.1,x,w⟩,r.keep (λo e=>(q.keep _ _ e (by rw[a];exact d)).1) q.tup,v.2.trans a,j.2.trans b,g.2.trans c,f.2.trans ty⟩
def iz{C:List (List Nat)}{r:Addr}{a:List Rw}(h:τ r=[0]/\fM H r m a)(q:tK C τ H τ' H')(b:[0]∉C):τ' r=[0]/\fM H' r m a:=by obtain⟨t,R⟩:=h;have c:=R;obtain⟨g,d,_⟩:=c;have f:=q.keep _ _ d (by rw[t];exact b);exact⟨f.2.trans t,R.keep (λo e=>(q.keep _ _ e (by rw[t];exact b)).1) q.tup⟩
inductive wL(CW CH CN CO:Addr)(K:zzy)(vs:List V)(H:Hp)(Q:VK)(E:XK):Prop|m:∀(i:Nat)(τ:Tg)(W:rE)(S:dD)(h:Int),vs=[.ref W.o,.int h]->j9 CW CH i τ H W S->S.ts.length<=10000->(∀(k:Nat)(s:bJ)(r:Rw)(t:Addr)(H':Hp),h=k->S.hs[k]?=some s->s.st = "waits" -> s.rws[s.pos]?=some r->touch r=true->H t=none->H' t=some (.tup (zY S.ns s.bs r))->j9 CW CH i τ H' W (cG S k)->k_ i τ H H'->Q (.ref t) H')->(¬ux h S.hs.length->E (.ref CN) none H)->(∀(k:Nat)(s:bJ),h=k->S.hs[k]?=some s->s.st ≠ "waits" -> E (.ref CO) none H)->wL CW CH CN CO K vs H Q E
def TF{s:bJ}{r:Rw}(a:S.hs[k]?=some s)(b:s.rws[s.pos]?=some r):cG S k={S with ns:=dW S.ns s.bs r,hs:=S.hs.set k (lO S.ns s r),ts:=S.ts++[(k:Int)]}:=by unfold cG;simp only[a,b]
def Mp(ns bs:List Int)(r:Rw):(dW ns bs r).length=ns.length:=by cases r<;>simp[dW]
theorem j9.turned{W:rE}{A:qj}{s:bJ}{r:Rw}(w:j9 CW CH i τ H W S)(I:W.hd[k]?=some A)(v:S.hs[k]?=some s)(M:s.rws[s.pos]?=some r)(B:∀x u,H x=some u->x≠W.nb->x≠A.b->x≠A.h->x≠A.sy->x≠W.tn->H' x=some u)(c:pU CH H' A (lO S.ns s r))(p:H' W.nb=some (.lst ((dW S.ns s.bs r).map V.int)))(l:H' W.tn=some (.lst ((S.ts++[(k:Int)]).map V.int))):j9 CW CH i τ H' W (cG S k)/\k_ i τ H H':=by
 have a:=w.hd k A s I v;have tup:∀x C,H x=some (.tup C)->H' x=some (.tup C):=λx C e=>B _ _ e (dG e w.nb ZN) (dG e a.c.b ZN) (dG e a.c.h ZN) (dG e a.c.y ZN) (dG e w.tn ZN)
 have E:k_ i τ H H':=by
  refine⟨λx u e n=>?_,tup,λx e=>?_⟩
  .have ne:∀(y:Addr)(t:List Nat),τ y=i::t->x≠y:=λy t ty z=>n (by rw[z,ty];rfl)
   exact B _ _ e (ne _ _ w.tb) (ne _ _ a.tb) (ne _ _ a.th) (ne _ _ a.ty) (ne _ _ w.tt)
  .cases q:H x with
   | none=>rfl
   | some u=>
     have no:∀y o,H' y=some o->x≠y:=λy o h z=>by rw[z,h] at e;cases e
     rw[B _ _ q (no _ _ p) (no _ _ c.b) (no _ _ c.h) (no _ _ c.y) (no _ _ l)] at e;cases e
 refine⟨?_,E⟩
 have q:tK [[i,1],[i,5,k],[i,4,k],[i,6,k],[i,3]] τ H τ H':=by refine⟨λx u e n=>⟨?_,Z⟩,tup⟩;have ne:∀(y:Addr)(t:List Nat),τ y=t->t∈[[i,1],[i,5,k],[i,4,k],[i,6,k],[i,3]]->x≠y:=λy t ty K z=>n (by rw[z,ty];exact K);exact B _ _ e (ne _ _ w.tb MZ) (ne _ _ a.tb MZ) (ne _ _ a.th MZ) (ne _ _ a.ty MZ) (ne _ _ w.tt MZ)
 have J:=w.i0;have g:[0]∉[[i,1],[i,5,k],[i,4,k],[i,6,k],[i,3]]:=by simp
 rw[TF v M];have L:k<S.hs.length:=(aam.mp v).1
 have get:∀(j:Nat)(b:bJ),(S.hs.set k (lO S.ns s r))[j]?=some b->(j=k/\b=lO S.ns s r)\/(j≠k/\S.hs[j]?=some b):=λj b e=>by
  rw[List.getElem?_set] at e
  by_cases z:k=j
  .subst z
   simp[L] at e;exact .inl ⟨Z,e.symm⟩
  .rw[adp z] at e
   exact .inr ⟨λy=>z y.symm,e⟩
 have G:(lO S.ns s r).rws=s.rws:=vG _ _;have mem:∀b∈S.hs.set k (lO S.ns s r),b=lO S.ns s r\/b∈S.hs:=λb m=>(List.mem_or_eq_of_mem_set m).symm;refine⟨E.un w.un,J,(q.keep _ _ w.o (by rw[w.to];simp)).1,tup _ _ w.pg,(q.keep _ _ w.L (by rw[w.tL];exact g)).1,p,(q.keep _ _ w.hl (by rw[w.tl];simp)).1,l,w.to,w.tb,w.tl,w.tt,w.tL,?_,?_,?_,?_,?_,?_,?_,?_⟩
 .simp[w.rl]
 .intro j F b f d
  rcases get j b d with ⟨rfl,rfl⟩|⟨_,d⟩
  .rw[G]
   exact iz (w.rs j F s f v) q g
  .exact iz (w.rs j F b f d) q g
 .simp[w.len]
 .intro j N b f d
  rcases get j b d with ⟨rfl,rfl⟩|⟨D,d⟩
  .rw[I] at f
   cases f;refine⟨c,?_,a.tr,a.th,a.tb,a.ty⟩;rw[G];exact(iz ⟨a.tr,a.r⟩ q g).2
  .exact(w.hd j N b f d).mvT q g (by simp[D]) (by simp[D]) (by simp[D])
 .intro b m
  rcases mem b m with rfl|m
  .exact Lx _ _
  .exact w.ok b m
 .intro b m
  simp only[aa1,acj];rcases mem b m with rfl|m
  .have:=Lw 60 {s with pos:=s.pos+1,bs:=uG S.ns s.bs r}
   have:=w.sl s (aaN v);show (led 60 _).sy.length<=_;simp only at *;lia
  .have:=w.sl b m
   lia
 .show (dW S.ns s.bs r).length=S.m
  rw[Mp,w.nl]
 .simp[w.hn]
theorem Y6(F:fU K "turn" "Works.turn" pB f fd)(dX:jM P w K mg base 3 ak "hand_of" ["self","hand"] (lq ak aq bw K))(xX:MethAt P w K mg base 4 ak "touch_by" ["self","one"] (rT ak aq K))(lW:MethAt P w K mg base 6 aq "lead_on" ["self"] (Ac aq K))(I:cD K ak)(B:fG K aq)(j8:Xr K mg cZ "Over"):bN P w K mg base (tM P w) 7 f fd ["self","hand"] (wL ak aq bw cZ K):=by
 refine F.Xv mX (λvs H Q E h=>?_) (λa1 A O s H vs Q E hr h hR=>?_)
 .obtain⟨i,τ,W,S,h,rfl,_⟩:=h
  rfl
 .obtain⟨i,τ,W,S,h,rfl,w,tl,k1,k2,k3⟩:=h
  refine⟨_,(aA (bH (i:=2) mX.nd rfl (Or.inl rfl) (oE dX I.cls rfl hR (hr.mono DZ) (pv 0) (aj (pv 1) au)))
   (aA (bY (bD oG (bf (K:=K) rfl (pv 2) rfl) bO (bh _)) (aJ (lK PySem.F.excBase_ValueError j8.ex j8.bd oZR rfl rfl hR (aj bO au))) bG)
   (aA (bH (i:=3) mX.nd rfl (Or.inl rfl) (cu xX I.cls (hr.mono DZ) (pv 0) (aj (pv 2) au)))
   (aA (Bk (K:=K) rfl (pv 2) aG G3)
   (aA (cL (bU lW B.cls (hr.mono DZ) (pv 2)))
   (aA (cL (fW (K:=K) rfl (bf (K:=K) rfl (pv 0) rfl) (aj (pv 1) au)))
   (aJ (aZ (pv 3))))))))),?_⟩
  refine⟨_,Z,W.o,W.dx,_,Z,w.o,Z,_,Z,i,τ,W,S,h,Z,w,λk A s e eA l=>?_,k2⟩;have a:=w.hd k A s eA l;refine⟨_,Z,A.h,aq,A.hx,_,_,Z,a.c.h,B.cls,B.jJ,Z,Z,_,Z,?_⟩
  by_cases m:s.st = "waits"
  rotate_left
  .refine cV (λ_=>?_) (λz=>adt (by simp[m]) z)
   exact⟨sZ1,k3 k s e l m⟩
  refine vI (by rw[m]) ?_;obtain⟨r,er,tr⟩:=w.ok s (aaN l) m;have g:W.nb≠A.b:=eV w.tb a.tb MZ;have d:W.nb≠A.sy:=eV w.tb a.ty MZ;refine⟨_,Z,W.o,W.dx,_,Z,w.o,Z,_,Z,W.o,W.dx,W.pg,W.nb,W.hl,W.tn,A,s,S.m,S.ns,r,Z,w.o,w.nb,w.nl,a.c,a.r,er,tr,g,d,λt H1 tf t1 y Y N=>?_⟩;refine⟨_,Z,A.h,aq,A.hx,_,_,Z,y.h,B.cls,B.vA,Z,_,_,Z,Z,A.hx,_,y.h,(by show 5<1000;decide),?_⟩;rw[Bg];have G:=y.tZ (s.pos+1) s.st;have j:KH A H1 (upd H1 A.h (.ins aq A.hx (hF A.r ((s.pos+1:Nat):Int) A.b A.sy s.st))):=KH.tZ;have t2:=y.tup j _ _ t1;dsimp only;rw[show ((s.pos:Nat):Int)+1=((s.pos+1:Nat):Int) by lia];generalize (upd H1 A.h (.ins aq A.hx (hF A.r ((s.pos+1:Nat):Int) A.b A.sy s.st)))=H2 at G j t2 ⊢;have c:A.r≠A.b:=eV a.tr a.tb ZN;have n:A.r≠A.sy:=eV a.tr a.ty ZN;have T:A.r≠A.h:=eV a.tr a.th ZN;have R:A.r≠W.nb:=eV a.tr w.tb ZN;have Qy:∀x L,H x=some (.tup L)->H2 x=some (.tup L):=λx L q=>y.tup j _ _ (N _ _ q (dG q w.nb ZN) (dG q a.c.b ZN));have R2:fM H2 A.r S.m s.rws:=a.r.keep (λo q=>j _ _ (N _ _ q R c) T c n) Qy;have sl:=w.sl s (aaN l);refine⟨_,Z,A.h,A.hx,_,Z,G.h,Z,A,_,S.m,Z,G,R2,c,n,by show s.sy.length<_;lia,λJ v M=>?_⟩;have k13:∀x u,H x=some u->x≠W.nb->x≠A.b->x≠A.h->x≠A.sy->J x=some u:=λx u q n1 p D C=>M _ _ (j _ _ (N _ _ q n1 p) D p C) D p C;have o3:=k13 _ _ w.o (eV w.to w.tb MZ) (eV w.to a.tb MZ) (eV w.to a.th MZ) (eV w.to a.ty MZ);have b:=k13 _ _ w.tn (eV w.tt w.tb MZ) (eV w.tt a.tb MZ) (eV w.tt a.th MZ) (eV w.tt a.ty MZ);have X:=M _ _ (j _ _ Y (eV w.tb a.th MZ) g d) (eV w.tb a.th MZ) g d;have t3:=G.tup M _ _ t2;refine⟨_,Z,W.o,ak,W.dx,_,_,Z,o3,I.cls,I.sS,Z,.inl ⟨Z,_,bF.of b⟩,_,Z,_,_,_,Z,Z,b,(by rw[aak,sizeLine_eq];lia),?_⟩;have a0:∀x u,H x=some u->x≠W.nb->x≠A.b->x≠A.h->x≠A.sy->x≠W.tn->(upd J W.tn (.lst (S.ts.map V.int++[V.int h]))) x=some u:=λx u q n1 p D C n5=>by rw[aF n5];exact k13 x u q n1 p D C
  have U:W.nb≠W.tn:=eV w.tb w.tt MZ;have c4:pU aq (upd J W.tn (.lst (S.ts.map V.int++[V.int h]))) A (lO S.ns s r):=⟨by rw[aF (eV a.th w.tt MZ)];exact v.h,by rw[aF (eV a.tb w.tt MZ)];exact v.b,by rw[aF (eV a.ty w.tt MZ)];exact v.y,v.Q6,v.bl⟩;obtain⟨w4,st⟩:=w.turned (H':=upd J W.tn (.lst (S.ts.map V.int++[V.int h]))) eA l er a0 c4 (by rw[aF U];exact X) (by rw[ao,abd,e];rfl);refine⟨_,Z,k1 k s r t _ e l m er tr tf ?_ w4 st⟩;rw[aF (dG t3 b ZN)];exact t3
structure Bs(H0:Hp)(τ0:Tg)(o:Addr)(τ:Tg)(H:Hp):Prop where
 un:rF τ H
 kp:Kp o H0 H
 tg:∀x u,H0 x=some u->x≠o->τ x=τ0 x
theorem Bs.same{H0 H H':Hp}{a τ:Tg}{o:Addr}(b:Bs H0 a o τ H)(k:Same H H'):Bs H0 a o τ H':=⟨b.un.same k,b.kp.trans (Kp.of_same k),b.tg⟩
theorem Bs.claim{H0 H H':Hp}{a τ:Tg}{o p:Addr}{t:List Nat}(b:Bs H0 a o τ H)(k:Same H H')(d:H p=none)(c:∃u,H' p=some u):Bs H0 a o (aQ τ p t) H':=⟨b.un.claim k c,b.kp.trans (Kp.of_same k),λx u e n=>by rw[aR (aB (b.kp _ _ e n) d)];exact b.tg x u e n⟩
def Bs.set{H0:Hp}{o x:Addr}{v:HO}(b:Bs H0 τ0 o τ H)(a:x=o\/H0 x=none):Bs H0 τ0 o τ (upd H x v):=
 ⟨b.un.dom (λy e=>by
   by_cases z:y=x
   .rw[z,ao] at e;cases e
   .rw[aF z] at e;exact e),λy u e n=>by
   have z:y≠x:=by
    rcases a with rfl|a
    .exact n
    .exact aB e a
   rw[aF z];exact b.kp _ _ e n,b.tg⟩
def Bs.fresh{H0:Hp}{o:Addr}(b:Bs H0 τ0 o τ H)(a:H p=none)(n:p≠o):H0 p=none:=zu b.kp n a
inductive mC(CW CH CN:Addr)(K:zzy)(vs:List V)(H:Hp)(Q:VK)(E:XK):Prop|m:∀(i:Nat)(τ:Tg)(o dx p L0:Addr)(Yv:List Addr)(m:Nat)(cv:V)(ns:List Int)(rws:List (List Rw)),vs=[.ref o,.ref p,cv]->H o=some (.ins CW dx [])->H p=some (.tup [.int m,.ref L0])->H L0=some (.lst (Yv.map V.ref))->Yv.length=rws.length->(∀(k:Nat)(r:Addr)(x:List Rw),Yv[k]?=some r->rws[k]?=some x->fM H r m x)->rws.length<=100->m<=100->rF τ H->i≠0->ns.length<=100->((cv=.non/\ns=List.replicate m 0) \/ ∃cl,cv=.ref cl/\H cl=some (.lst (ns.map V.int)))->(qR m ns -> ∀(τ':Tg)(W:rE)(H':Hp),W.o=o->j9 CW CH i τ' H' W (Du m ns rws)->(∀x u,H x=some u->x≠o->τ' x=τ x)->Kp o H H'->Q .non H')->(¬qR m ns -> ∀H',Kp o H H'->E (.ref CN) none H')->mC CW CH CN K vs H Q E
def q_{α:Type}{l:List α}{x y:α}(h:(l++[x])[k]?=some y):l[k]?=some y\/(k=l.length/\y=x):=by
 by_cases e:k<l.length
 .rw[aa6 e] at h
  exact .inl h
 .rw[aa5 LZ] at h
  have lt:=(aam.mp h).1;simp at lt;have:k=l.length:=by lia
  subst this;simp at h;exact .inr ⟨Z,h.symm⟩
theorem Vm(F:aaf K "__init__" "Works.__init__" b_ [.none] f fd)(aK:cD K ak)(aL:fG K aq)(yS:Xi P w K mg base 3 "check_numbers" ["cells","count"] (o7 bW K))(M5:rJ P w K mg base 1 aq "Hand" ["self","rows"] [] (uW aq K))(lW:MethAt P w K mg base 6 aq "lead_on" ["self"] (Ac aq K))(Bt:lZ mg):bN P w K mg base (tM P w) 7 f fd ["self","program","cells"] (mC ak aq bW K):=by
 refine F.Xv mY (λvs H Q E h=>?_) (λl9 A h9 s H vs Q E hr h hR=>?_)
 .obtain⟨i,τ,o,I,p,L0,Yv,m,cv,ns,c,rfl,_⟩:=h
  rfl
 .obtain⟨i,τ,o,I,p,L0,Yv,m,cv,ns,c,rfl,ho,hp,hL,lr,l4,rl,ml,un,i0,nl,j8,k1,k2⟩:=h
  refine⟨_,(aA (bY (bD Gz (pv 2) j7 (bh _)) (aJ (mL (i:=2) rfl mY.nd rfl (Or.inl rfl) (N:=["cell"]) (own:=["cell"]) (caps:=[]) (bA.of (by kernel_rfl)) (cN oZR Bt.dH (aj (aP (aX (K:=K) rfl) (pv 1) aG (λ_ _=>rfl)) au)) (λ_ _ _ _=>(bI (i:=0) (show List.Nodup (["cell"]:List Str) by decide +kernel) rfl (Or.inl rfl))) (λ_ _ _ _=>cO) (λ_ _ _ _=>aG))) bG)
   (aA (cL (abO yS rfl hR (hr.mono DZ) oZR (aj (pv 2) (aj (aP (aX (K:=K) rfl) (pv 1) aG (λ_ _=>rfl)) au))))
   (aA (dz (K:=K) rfl (pv 0) (dI (aj (aP (aX (K:=K) rfl) (pv 1) aG (λ_ _=>rfl)) (aj (dB rfl (N:=["rows"]) (own:=["rows"]) (caps:=[]) (bA.of (by kernel_rfl)) (cQ (K:=K) rfl (aP (aX (K:=K) rfl) (pv 1) aG (λ_ _=>rfl))) (λ_ _ _ _=>(bI (i:=0) (show List.Nodup (["rows"]:List Str) by decide +kernel) rfl (Or.inl rfl))) (λ_ _ _ _=>cO) (λ_ _ _ _=>(dh (cA (K:=K) rfl) oZR Bt.gP fu (aj (pv 0) au)))) au))) rfl)
   (aA (dz (K:=K) rfl (pv 0) (dh (cA (K:=K) rfl) oZR Bt.gP fu (aj (pv 2) au)) rfl)
   (aA (dz (K:=K) rfl (pv 0) (dB rfl (N:=["rows"]) (own:=["rows"]) (caps:=[]) (bA.of (by kernel_rfl)) (cQ (K:=K) rfl (aP (aX (K:=K) rfl) (bf (K:=K) rfl (pv 0) rfl) aG (λ_ _=>rfl))) (λ_ _ _ _=>(bI (i:=0) (show List.Nodup (["rows"]:List Str) by decide +kernel) rfl (Or.inl rfl))) (λ_ _ _ _=>cO) (λ_ _ _ _=>(oF M5 (hr.mono DZ) oZR (aj (pv 0) au)))) rfl)
   (aA (dz (K:=K) rfl (pv 0) (cP au) rfl)
   (aJ (iI PassesOwn.leaving rfl (cQ (K:=K) rfl (bf (K:=K) rfl (pv 0) rfl)) (bI (i:=3) mY.nd rfl (Or.inl rfl))
   (aJ (cL (bU lW aL.cls (hr.mono DZ) (pv 3)))))))))))),?_⟩
  refine sG (λY H1=>∃cl:Addr,Y=[some (.ref o),some (.ref p),some (.ref cl),none]/\H1 cl=some (.lst (ns.map V.int))/\Same H H1) (λD' f6 l8=>?_) ?_
  .refine⟨_,Z,Z,_,Z,?_⟩
   rcases j8 with ⟨rfl,rfl⟩|⟨cl,rfl,c1⟩
   .refine eO ?_
    refine⟨_,Z,_,_,_,_,Z,Z,cC.of hp,Z,_,Z,LZ,LZ,λD hD=>?_⟩;rw[abf];refine sX (λ_=>some (.int 0)) hD LZ (λi H1 G F hi s1 kG kF=>kF _ H1 (Same.refl _) rfl) (λH1 s1 e1=>?_);rw[Ho] at e1;exact f6 _ _ ⟨D,Z,e1,s1⟩
   .refine cW ?_
    exact f6 _ _ ⟨cl,Z,c1,Same.refl _⟩
  rintro Y H1 ⟨cl,rfl,c1,s1⟩;have j1:=s1 _ _ hp;refine uZ (λR g=>?_);refine⟨_,Z,_,Z,_,_,_,_,Z,Z,cC.of j1,Z,cl,m,ns,Z,c1,nl,λgood H2 s2=>?_,λbad H2 s2=>k2 bad H2 (Kp.of_same (s1.trans s2))⟩;refine g _ _ ?_;have a0:=s1.trans s2;have a9:=a0 _ _ ho;have f0:=a0 _ _ hp;have f5:=a0 _ _ hL;have g2:=s2 _ _ c1;have l6:∀(k:Nat)(r:Addr)(x:List Rw),Yv[k]?=some r->c[k]?=some x->fM H2 r m x:=λk r x a b=>(l4 k r x a b).same a0;have B2:Bs H τ o (aQ τ o [i,0]) H2:=⟨λx e=>by rw[aR (aB a9 e).symm];exact un.same a0 x e,Kp.of_same a0,λx u e n=>aR n⟩;have to2:aQ τ o [i,0] o=[i,0]:=bC;generalize aQ τ o [i,0]=h3 at B2 to2;refine uZ (λR g=>?_);refine⟨_,Z,_,_,_,_,Z,Z,cC.of f0,Z,_,Z,_,_,_,_,Z,Z,cC.of f0,Z,L0,Z,⟨_,bF.of f5⟩,λL b0=>?_⟩;have sL:=aH (o:=HO.lst []) b0;have i7:L≠o:=(aB a9 b0).symm;refine jC (K:=K) (xs:=Yv.map V.ref) (λj Y l=>∃(v:Option V) (d:Tg) (rs:List Addr),Y=[v]/\rs.length=j/\Same H2 l/\l L=some (.lst (rs.map V.ref))/\Bs H τ o d l/\d o=[i,0]/\d L=[0] /\ ∀(k:Nat)(r:Addr)(x:List Rw),rs[k]?=some r->c[k]?=some x->r≠L/\d r=[0]/\fM l r m x) ?_ ?_ ?_ ?_
  .exact⟨none,aQ h3 L [0],[],Z,Z,sL,ao,B2.claim sL b0 ⟨_,ao⟩,by rw[aR i7.symm];exact to2,bC,λk r x h=>by simp at h⟩
  .rintro j Y l X ⟨v,d,rs,rfl,_,sc,_⟩
   exact bF.of (sc _ _ f5)
  .rintro j x Y l X ⟨v,d,rs,rfl,lj,sc,d1,Bc,h5,h6,hc⟩
   rw[aap] at X
   obtain⟨r0,f7,rfl⟩:∃r0,Yv[j]?=some r0/\x=.ref r0:=by
    cases e:Yv[j]? with
    | none=>rw[e] at X;cases X
    | some r0=>rw[e] at X;exact⟨r0,Z,(aaY X).symm⟩
   have jl:j<c.length:=by rw[←lr];exact(aam.mp f7).1
   have ex:c[j]?=some c[j]:=by simp[jl]
   have rr:=l6 j r0 _ f7 ex;obtain⟨ts,a7,k5,rq,h8⟩:=rr;dsimp only[bV,uO];rw[adq rfl];refine⟨_,Z,r0,_,Z,.inl (bF.of (sc _ _ a7)),λr a8=>?_⟩;have sr:=aH (o:=HO.lst ts) a8;have c7:r≠L:=(aB d1 a8).symm;have i2:r≠o:=(aB (sc _ _ a9) a8).symm;have k0:H L=none:=a0.free b0;refine⟨rs.map V.ref,sr _ _ d1,(by rw[aak,sizeLine_eq];lia),some (.ref r0),aQ d r [0],rs++[r],Z,by simp[lj],λy u e=>?_,by rw[ao];simp,(Bc.claim sr a8 ⟨_,ao⟩).set (.inr k0),?_,?_,?_⟩
   .rw[aF (aB e b0)]
    exact sr _ _ (sc _ _ e)
   .rw[aR i2.symm];exact h5
   .rw[aR c7.symm];exact h6
   .intro k r' x' J M
    have c3:∀y ys,l y=some (.tup ys)->(upd (upd l r (.lst ts)) L (.lst (rs.map V.ref++[V.ref r]))) y=some (.tup ys):=λy ys e=>by rw[aF (dG e d1 ZN)];exact sr _ _ e
    rcases q_ J with J|⟨e1,rfl⟩
    .obtain⟨n1,t1,R1⟩:=hc k r' x' J M
     have rr:=R1;obtain⟨l7,j0,_⟩:=rr;have n2:r'≠r:=aB j0 a8;refine⟨n1,by rw[aR n2];exact t1,R1.keep (λu e=>?_) c3⟩;rw[aF n1];exact sr _ _ e
    .rw[e1,lj,ex] at M
     cases M;refine⟨c7,bC,ts,by rw[aF c7,ao],?_,rq,h8⟩;exact k5.keep (λy ys e=>c3 _ _ (sc _ _ e)) _ (JC _)
  rintro Y H3 ⟨v,U,rs,rfl,b4,e3,k4,B3,to3,c6,e8⟩;rw[aak] at b4;have d0:=e3 _ _ a9;refine⟨sZ2,λB e9=>?_⟩;have a6:=aH (o:=HO.tup [V.int m,V.ref L]) e9;refine⟨_,Z,o,ak,I,_,Z,a6 _ _ d0,aK.cls,aK.sU,(by show 0<1000;decide),?_⟩;refine g _ _ ?_;have l1:B≠o:=(aB d0 e9).symm;have b9:(upd (upd H3 B (.tup [V.int m,V.ref L])) o (.ins ak I (cM "program" (.ref B) []))) o=some (.ins ak I [("program",.ref B)]):=ao;have f8:(upd (upd H3 B (.tup [V.int m,V.ref L])) o (.ins ak I (cM "program" (.ref B) []))) B=some (.tup [V.int m,V.ref L]):=by rw[aF l1,ao]
  have q4:tK [[i,0]] U H3 U (upd (upd H3 B (.tup [V.int m,V.ref L])) o (.ins ak I (cM "program" (.ref B) []))):=(tK.of_same a6).trans (tK.set (by rw[to3];simp) (a6 _ _ d0) XZ);have B4:Bs H τ o U (upd (upd H3 B (.tup [V.int m,V.ref L])) o (.ins ak I (cM "program" (.ref B) []))):=(B3.same a6).set (.inl rfl);have e5:Kp o H3 (upd (upd H3 B (.tup [V.int m,V.ref L])) o (.ins ak I (cM "program" (.ref B) []))):=(Kp.of_same a6).trans Kp.set;generalize (upd (upd H3 B (.tup [V.int m,V.ref L])) o (.ins ak I (cM "program" (.ref B) [])))=H4 at b9 f8 q4 B4 e5 ⊢;have k3:=(q4.keep _ _ k4 (by rw[c6];simp)).1;have i9:∀(k:Nat)(r:Addr)(x:List Rw),rs[k]?=some r->c[k]?=some x->U r=[0]/\fM H4 r m x:=λk r x J M=>iz ⟨(e8 k r x J M).2.1,(e8 k r x J M).2.2⟩ q4 MZ;have l2:cl≠o:=dG g2 a9 ZN;have k6:=e5 _ _ (e3 _ _ g2) l2;refine uZ (λR g=>?_);refine⟨_,Z,cl,_,Z,.inl (bF.of k6),λC c0=>?_⟩;have b2:=aH (o:=HO.lst (ns.map V.int)) c0;refine⟨_,Z,o,ak,I,_,Z,b2 _ _ b9,aK.cls,aK.jB,(by show 1<1000;decide),?_⟩;refine g _ _ ?_;have d2:C≠o:=(aB b9 c0).symm;have Xw:(upd (upd H4 C (.lst (ns.map V.int))) o (.ins ak I (cM "numbers" (.ref C) [("program",.ref B)]))) o=some (.ins ak I [("program",.ref B),("numbers",.ref C)]):=ao;have g3:(upd (upd H4 C (.lst (ns.map V.int))) o (.ins ak I (cM "numbers" (.ref C) [("program",.ref B)]))) C=some (.lst (ns.map V.int)):=by rw[aF d2,ao]
  have q5:tK [[i,0]] U H4 (aQ U C [i,1]) (upd (upd H4 C (.lst (ns.map V.int))) o (.ins ak I (cM "numbers" (.ref C) [("program",.ref B)]))):=(tK.claim b2 c0).trans (tK.set (by rw[aR d2.symm,to3];simp) (b2 _ _ b9) XZ);have B5:Bs H τ o (aQ U C [i,1]) (upd (upd H4 C (.lst (ns.map V.int))) o (.ins ak I (cM "numbers" (.ref C) [("program",.ref B)]))):=(B4.claim b2 c0 ⟨_,ao⟩).set (.inl rfl);have d5:aQ U C [i,1] o=[i,0]:=by rw[aR d2.symm];exact to3
  have c5:aQ U C [i,1] C=[i,1]:=bC;generalize (upd (upd H4 C (.lst (ns.map V.int))) o (.ins ak I (cM "numbers" (.ref C) [("program",.ref B)])))=H5 at Xw g3 q5 B5 ⊢;generalize aQ U C [i,1]=a1 at q5 B5 d5 c5;have a4:=q5.keep _ _ k3 (by rw[c6];simp);have e7:∀(k:Nat)(r:Addr)(x:List Rw),rs[k]?=some r->c[k]?=some x->a1 r=[0]/\fM H5 r m x:=λk r x J M=>iz (i9 k r x J M) q5 MZ;have f9:=q5.tup _ _ f8;have e0:a1 L=[0]:=a4.2.trans c6;have a4:=a4.1;refine uZ (λR g=>?_);refine⟨_,Z,o,ak,I,_,_,Z,Xw,aK.cls,aK.sU,Z,_,_,_,_,Z,Z,cC.of f9,Z,L,Z,⟨_,bF.of a4⟩,λO a3=>?_⟩;have shl:=aH (o:=HO.lst []) a3;have l3:O≠o:=(aB Xw a3).symm;refine jC (K:=K) (xs:=rs.map V.ref) (λj Y l=>∃(v:Option V) (d:Tg) (hd:List qj),Y=[v]/\hd.length=j/\Same H5 l/\l O=some (.lst (hd.map λa=> .ref a.h))/\Bs H τ o d l/\(∀x u,H5 x=some u->d x=a1 x)/\d O=[i,2] /\ ∀(k:Nat)(A:qj)(x:List Rw),hd[k]?=some A->c[k]?=some x->yR aq i k m d l A (new x)/\H A.h=none/\H A.b=none/\H A.sy=none) ?_ ?_ ?_ ?_
  .exact⟨none,aQ a1 O [i,2],[],Z,Z,shl,ao,B5.claim shl a3 ⟨_,ao⟩,λx u e=>aR (aB e a3),bC,λk A x h=>by simp at h⟩
  .rintro j Y l X ⟨v,d,hd,rfl,_,sc,_⟩
   exact bF.of (sc _ _ a4)
  .rintro j x Y l X ⟨v,d,hd,rfl,lj,sc,a2,Bc,DY,d6,hc⟩
   rw[aap] at X
   obtain⟨r,er,rfl⟩:∃r,rs[j]?=some r/\x=.ref r:=by
    cases e:rs[j]? with
    | none=>rw[e] at X;cases X
    | some r0=>rw[e] at X;exact⟨r0,Z,(aaY X).symm⟩
   have jl:j<c.length:=by rw[←lr,←b4];exact(aam.mp er).1
   have ex:c[j]?=some c[j]:=by simp[jl]
   obtain⟨tr,R⟩:=e7 j r _ er ex;have rr:=R;obtain⟨ts,a7,_⟩:=rr;dsimp only[bV,uO];rw[adq rfl];refine⟨_,Z,λh hx hn i8 i4=>?_⟩;have j2:(upd l hx (.own h)) h=none:=by rw[aF i4.symm];exact hn
   have sm:Same l (upd (upd l hx (.own h)) h (.ins aq hx [])):=(aH i8).trans (aH j2);refine⟨h,r,hx,Z,ao,λb sy H7 hb e6 g0 h7 b7 e2 k7=>⟨Z,?_⟩⟩;have S7:Same l H7:=λy u e=>k7 _ _ (sm _ _ e) (aB e hn);have fb:l b=none:=sm.free hb;have fy:l sy=none:=sm.free e6;have i5:O≠h:=aB a2 hn;have i6:O≠b:=aB a2 fb;have i1:O≠sy:=aB a2 fy;have Zi:h≠b:=aB ao hb;have i3:h≠sy:=aB ao e6;have j3:H O=none:=B5.fresh a3 l3;have sH:Same l l:=Same.refl _;have T:∀x u,l x=some u->aQ (aQ (aQ d h [i,4,j]) b [i,5,j]) sy [i,6,j] x=d x:=λy u e=>by rw[aR (aB e fy),aR (aB e fb),aR (aB e hn)]
   have B7:Bs H τ o (aQ (aQ (aQ d h [i,4,j]) b [i,5,j]) sy [i,6,j]) H7:=by
    refine⟨λy e=>?_,Bc.kp.trans (Kp.of_same S7),λy u e n=>?_⟩
    .have n1:y≠h:=λz=>by rw[z,h7] at e;cases e
     have n2:y≠b:=λz=>by rw[z,b7] at e;cases e
     have n3:y≠sy:=λz=>by rw[z,e2] at e;cases e
     rw[aR n3,aR n2,aR n1];exact Bc.un y (S7.free e)
    .rw[T y u (Bc.kp _ _ e n)]
     exact Bc.tg y u e n
   have q7:tK [[i,2]] d l (aQ (aQ (aQ d h [i,4,j]) b [i,5,j]) sy [i,6,j]) (upd H7 O (.lst ((hd.map λa=>V.ref a.h)++[V.ref h]))):=by
    refine⟨λy u e n=>⟨?_,T y u e⟩,λy ys e=>?_⟩
    .rw[aF (λz:y=O=>n (by rw[z,d6];simp))]
     exact S7 _ _ e
    .rw[aF (dG e a2 ZN)]
     exact S7 _ _ e
   have Th:aQ (aQ (aQ d h [i,4,j]) b [i,5,j]) sy [i,6,j] h=[i,4,j]:=by rw[aR i3,aR Zi,bC]
   have Tb:aQ (aQ (aQ d h [i,4,j]) b [i,5,j]) sy [i,6,j] b=[i,5,j]:=by rw[aR g0,bC]
   have Ty:aQ (aQ (aQ d h [i,4,j]) b [i,5,j]) sy [i,6,j] sy=[i,6,j]:=bC;generalize aQ (aQ (aQ d h [i,4,j]) b [i,5,j]) sy [i,6,j]=h0 at T B7 q7 Th Tb Ty;refine⟨_,S7 _ _ a2,(by rw[aak,sizeLine_eq];lia),some (.ref r),h0,hd++[⟨h,hx,r,b,sy⟩],Z,by simp[lj],λy u e=>?_,by rw[ao];simp,B7.set (.inr j3),λy u e=>?_,?_,?_⟩
   .rw[aF (aB e a3)]
    exact S7 _ _ (sc _ _ e)
   .rw[T y u (sc _ _ e)]
    exact DY y u e
   .rw[T _ _ a2];exact d6
   .intro k A x' J M
    rcases q_ J with J|⟨e1,rfl⟩
    .exact⟨(hc k A x' J M).1.mvT q7 MZ MZ MZ MZ,(hc k A x' J M).2⟩
    .rw[e1,lj,ex] at M
     cases M;rw[e1,lj];have h4:d r=[0]:=by rw[DY _ _ a7];exact tr
     obtain⟨t9,R9⟩:=iz ⟨h4,R.same sc⟩ q7 MZ;have c9:=sc _ _ Xw;exact⟨⟨⟨by rw[aF i5.symm];exact h7,by rw[aF i6.symm];exact b7,by rw[aF i1.symm];exact e2,g0,Z⟩,R9,t9,Th,Tb,Ty⟩,Bc.fresh hn (aB c9 hn).symm,Bc.fresh fb (aB c9 fb).symm,Bc.fresh fy (aB c9 fy).symm⟩
  rintro Y H8 ⟨v,S,hd,rfl,e4,b3,k9,B8,Dg,d7,f4⟩;rw[aak] at e4;have ZF:=b3 _ _ Xw;have c4:S o=[i,0]:=by rw[Dg _ _ Xw];exact d5
  refine⟨_,Z,o,ak,I,_,Z,ZF,aK.cls,aK.mR,(by show 2<1000;decide),?_⟩;refine g _ _ ?_;have b8:(upd H8 o (.ins ak I (cM "hands" (.ref O) [("program",.ref B),("numbers",.ref C)]))) o=some (.ins ak I [("program",.ref B),("numbers",.ref C),("hands",.ref O)]):=ao;have q9:tK [[i,0]] S H8 S (upd H8 o (.ins ak I (cM "hands" (.ref O) [("program",.ref B),("numbers",.ref C)]))):=tK.set (by rw[c4];simp) ZF XZ;have B9:Bs H τ o S (upd H8 o (.ins ak I (cM "hands" (.ref O) [("program",.ref B),("numbers",.ref C)]))):=B8.set (.inl rfl);generalize (upd H8 o (.ins ak I (cM "hands" (.ref O) [("program",.ref B),("numbers",.ref C)])))=H9 at b8 q9 B9 ⊢;refine uZ (λR g=>?_);refine⟨sZ0,λW b6=>?_⟩;have b1:=aH (o:=HO.lst []) b6;refine⟨_,Z,o,ak,I,_,Z,b1 _ _ b8,aK.cls,aK.sS,(by show 3<1000;decide),?_⟩;refine g _ _ ?_;have d3:W≠o:=(aB b8 b6).symm;have Rp:(upd (upd H9 W (.lst [])) o (.ins ak I (cM "turns" (.ref W) [("program",.ref B),("numbers",.ref C),("hands",.ref O)]))) o=some (.ins ak I (wF B C O W)):=ao;have g7:(upd (upd H9 W (.lst [])) o (.ins ak I (cM "turns" (.ref W) [("program",.ref B),("numbers",.ref C),("hands",.ref O)]))) W=some (.lst []):=by rw[aF d3,ao]
  have QG:tK [[i,0]] S H9 (aQ S W [i,3]) (upd (upd H9 W (.lst [])) o (.ins ak I (cM "turns" (.ref W) [("program",.ref B),("numbers",.ref C),("hands",.ref O)]))):=(tK.claim b1 b6).trans (tK.set (by rw[aR d3.symm,c4];simp) (b1 _ _ b8) XZ);have d4:Bs H τ o (aQ S W [i,3]) (upd (upd H9 W (.lst [])) o (.ins ak I (cM "turns" (.ref W) [("program",.ref B),("numbers",.ref C),("hands",.ref O)]))):=(B9.claim b1 b6 ⟨_,ao⟩).set (.inl rfl);have QC:aQ S W [i,3] o=[i,0]:=by rw[aR d3.symm];exact c4
  have Qz:aQ S W [i,3] W=[i,3]:=bC;have K9:=q9.trans QG;generalize (upd (upd H9 W (.lst [])) o (.ins ak I (cM "turns" (.ref W) [("program",.ref B),("numbers",.ref C),("hands",.ref O)])))=a5 at Rp g7 QG d4 K9 ⊢;generalize aQ S W [i,3]=Ig at QG d4 QC Qz K9;have Et:=K9.keep _ _ k9 (by rw[d7];simp);have TX:Ig O=[i,2]:=Et.2.trans d7;have Et:=Et.1
  have n5:∀x u,H5 x=some u->a1 x≠[i,0]->a5 x=some u/\Ig x=a1 x:=λx u e n=>by have:=K9.keep _ _ (b3 _ _ e) (by rw[Dg _ _ e];simp[n]);exact⟨this.1,by rw[this.2,Dg _ _ e]⟩
  have g1:=n5 _ _ a4 (by rw[e0];simp);have g6:=n5 _ _ g3 (by rw[c5];simp);have l5:=K9.tup _ _ (b3 _ _ f9);have k8:∀(k:Nat)(A:qj)(x:List Rw),hd[k]?=some A->c[k]?=some x->yR aq i k m Ig a5 A (new x):=λk A x J M=>(f4 k A x J M).1.mvT K9 MZ MZ MZ MZ
  have l0:∀(k:Nat)(r:Addr)(x:List Rw),rs[k]?=some r->c[k]?=some x->Ig r=[0]/\fM a5 r m x:=λk r x J M=>by obtain⟨t5,R5⟩:=e7 k r x J M;have rr:=R5;obtain⟨ts,a7,_⟩:=rr;exact iz ⟨by rw[Dg _ _ a7];exact t5,R5.same b3⟩ K9 MZ
  have lh:hd.length=c.length:=by rw[e4,b4,lr]
  refine⟨_,Z,o,ak,I,_,_,Z,Rp,aK.cls,aK.mR,Z,O,Z,⟨_,bF.of Et⟩,?_⟩
  refine vO (K:=K) (a:=O) (xs:=hd.map λa=>V.ref a.h) (λj Y l=>∃x1:Option V,Y=[some (.ref o),some (.ref p),some (.ref cl),x1]/\(∀x u,a5 x=some u->(∀k,Ig x≠[i,4,k])->(∀k,Ig x≠[i,5,k])->(∀k,Ig x≠[i,6,k])->l x=some u)/\(∀x ys,a5 x=some (.tup ys)->l x=some (.tup ys))/\Bs H τ o Ig l /\∀(k:Nat)(A:qj)(x:List Rw),hd[k]?=some A->c[k]?=some x->yR aq i k m Ig l A (if k<j then lead (new x) else new x))
   ⟨none,Z,λx u e _ _ _=>e,λx ys e=>e,d4,λk A x J M=>by rw[adp LZ];exact k8 k A x J M⟩ (λj Y l _ ⟨_,_,kc,_⟩=>bF.of (kc _ _ Et (by rw[TX];simp) (by rw[TX];simp) (by rw[TX];simp))) ?_ ?_
  .rintro j v Y l X ⟨x1,rfl,kc,tc,Bc,hc⟩
   rw[aap] at X
   obtain⟨A,eA,rfl⟩:∃A,hd[j]?=some A/\v=.ref A.h:=by
    cases e:hd[j]? with
    | none=>rw[e] at X;cases X
    | some A=>rw[e] at X;exact⟨A,Z,(aaY X).symm⟩
   have jl:j<c.length:=by rw[←lh];exact(aam.mp eA).1
   have ex:c[j]?=some c[j]:=by simp[jl]
   have a:=hc j A _ eA ex;rw[adp LZ] at a;refine⟨_,Z,A.h,A.hx,_,Z,a.c.h,Z,A,_,m,Z,a.c,a.r,eV a.tr a.tb ZN,eV a.tr a.ty ZN,(by show 0<900000;decide),λg8 c2 b5=>?_⟩;have q12:tK [[i,4,j],[i,5,j],[i,6,j]] Ig l Ig g8:=⟨λx u e n=>⟨b5 _ _ e (λz=>n (by rw[z,a.th];simp)) (λz=>n (by rw[z,a.tb];simp)) (λz=>n (by rw[z,a.ty];simp)),Z⟩,a.c.tup b5⟩;refine⟨_,Z,λx u e n4 n5 n6=>(q12.keep _ _ (kc x u e n4 n5 n6) (by simp[n4,n5,n6])).1,λx ys e=>q12.tup _ _ (tc _ _ e),?_,?_⟩
   .obtain⟨f1,f2,f3⟩:=(f4 j A _ eA ex).2
    refine⟨Bc.un.dom λx e=>?_,λx u e n=>b5 _ _ (Bc.kp _ _ e n) (aB e f1) (aB e f2) (aB e f3),Bc.tg⟩;cases q:l x with
    | none=>rfl
    | some u=>
      have no:∀y o,g8 y=some o->x≠y:=λy o h z=>by rw[z,h] at e;cases e
      rw[b5 _ _ q (no _ _ c2.h) (no _ _ c2.b) (no _ _ c2.y)] at e;cases e
   .intro k A' x J M
    by_cases z:k=j
    .subst z
     rw[eA] at J;cases J;rw[ex] at M;cases M;rw[adq LZ];have c8:(lead (new c[k])).rws=c[k]:=vG _ _;refine⟨c2,?_,a.tr,a.th,a.tb,a.ty⟩;rw[c8];exact(iz ⟨a.tr,a.r⟩ q12 MZ).2
    .have b:=(hc k A' x J M).mvT q12 MZ (by simp[z]) (by simp[z]) (by simp[z])
     by_cases lt:k<j
     .rw[adq lt] at b
      rw[adq LZ];exact b
     .rw[adp lt] at b
      rw[adp LZ];exact b
  .rintro Y g9 ⟨x1,rfl,kc,tc,Bc,hc⟩
   rw[aak] at hc;have kt:∀x u t,a5 x=some u->Ig x=t->(∀k,t≠[i,4,k])->(∀k,t≠[i,5,k])->(∀k,t≠[i,6,k])->g9 x=some u:=λx u t e et n4 n5 n6=>kc x u e (by rw[et];exact n4) (by rw[et];exact n5) (by rw[et];exact n6);have g4:Ig L=[0]:=g1.2.trans e0;have g5:Ig C=[i,1]:=g6.2.trans c5
   have get:∀(k:Nat)(s:bJ),(c.map λr=>lead (new r))[k]?=some s -> ∃x,c[k]?=some x/\s=lead (new x):=λk s e=>by
    rw[aap] at e;cases q:c[k]? with
    | none=>rw[q] at e;cases e
    | some x=>rw[q] at e;exact⟨x,Z,(aaY e).symm⟩
   refine k1 good Ig ⟨o,I,B,L,C,O,W,rs,hd⟩ g9 rfl ⟨Bc.un,i0,kt _ _ _ Rp QC MZ MZ MZ,tc _ _ l5,kt _ _ _ g1.1 g4 MZ MZ MZ,kt _ _ _ g6.1 g5 MZ MZ MZ,kt _ _ _ Et TX MZ MZ MZ,kt _ _ _ g7 Qz MZ MZ MZ,QC,g5,TX,Qz,g4,?_,?_,?_,?_,?_,?_,?_,?_⟩ Bc.tg Bc.kp
   .show rs.length=(c.map _).length
    rw[aak,b4,lr]
   .intro k r s J M
    obtain⟨x,ex,rfl⟩:=get k s M;obtain⟨t1,R1⟩:=l0 k r x J ex;have c8:(lead (new x)).rws=x:=vG _ _;rw[c8];exact⟨t1,R1.keep (λu e=>kt _ _ _ e t1 MZ MZ MZ) tc⟩
   .show hd.length=(c.map _).length
    rw[aak,lh]
   .intro k A s J M
    obtain⟨x,ex,rfl⟩:=get k s M;have:=hc k A x J ex;rw[adq (aam.mp J).1] at this;exact this
   .intro s ms
    obtain⟨x,_,rfl⟩:=abE.mp ms;exact Lx _ _
   .intro s ms
    obtain⟨x,_,rfl⟩:=abE.mp ms;exact Lw 60 (new x)
   .have:=good.1
    show ns.length=m;lia
   .show (c.map _).length<=100
    rw[aak];exact rl
def SQ:Nat->PyData->Prop
 | 0,_=>False
 | n+1,.list ds=>ds.length<=20000 /\ ∀d∈ds,SQ n d
 | n+1,.tuple ds=>ds.length<=20000 /\ ∀d∈ds,SQ n d
 | _+1,.int _=>True
 | _+1,.str _=>True
 | _+1,.none=>True
 | _+1,.bool _=>True
 | _+1,_=>False
def SQ.ints(h:ns.length<=20000):SQ (n+2) (.list (ns.map PyData.int)):=by refine⟨by rw[aak];exact h,λd a=>?_⟩;obtain⟨i,_,rfl⟩:=abE.mp a;trivial
def Zq(K:zzy):W.kitOne K (.type "str") (.type "tuple")=some false:=by kernel_rfl
def Zt(K:zzy):W.kitOne K (.type "str") (.type "list")=some false:=by kernel_rfl
def GZ(K:zzy):W.kitOne K (.type "str") (.type "bool")=some false:=by kernel_rfl
def Zr(K:zzy):W.kitOne K (.type "str") (.type "str")=some true:=Z
def Zw(K:zzy):W.kitOne K (.type "int") (.type "tuple")=some false:=by kernel_rfl
def Zy(K:zzy):W.kitOne K (.type "int") (.type "list")=some false:=by kernel_rfl
def Zx(K:zzy):W.kitOne K (.type "int") (.type "str")=some false:=by kernel_rfl
def Zz(K:zzy):W.kitOne K (.type "bool") (.type "tuple")=some false:=by kernel_rfl
def ZC(K:zzy):W.kitOne K (.type "bool") (.type "list")=some false:=by kernel_rfl
def Zu(K:zzy):W.kitOne K (.type "NoneType") (.type "tuple")=some false:=by kernel_rfl
def Zv(K:zzy):W.kitOne K (.type "NoneType") (.type "list")=some false:=by kernel_rfl
def Ez(n:Nat)(v:V):(List.range n).filterMap (λ_=>some v)=List.replicate n v:=by
 induction n with
 | zero=>rfl
 | succ n a=>rw[d8,a,List.replicate_succ'];rfl
inductive mD(n:Nat)(K:zzy)(vs:List V)(H:Hp)(Q:VK)(dY:XK):Prop|m:∀(x y:V)(d:PyData),vs=[x,y]->Dat H x d->Dat H y d->SQ n d->(∀H',Same H H'->Q (.bl true) H')->mD n K vs H Q dY
def Q0(F:fU K "_law_alike" "_law_alike" vg f fd):bN P w K mg base ig 1 f fd ["found","due"] (mD 0 K):=by
 refine F.ok Ec (λb H Q E h=>?_) (λc A a s H b Q E e h=>?_)
 .obtain⟨x,y,d,_,_,_,z,_⟩:=h
  exact z.elim
 .obtain⟨x,y,d,_,_,_,z,_⟩:=h
  exact z.elim
theorem sI(F:fU K "_law_alike" "_law_alike" vg f fd)(Y:FnAt P w K mg base (n+1) "_law_alike" ["found","due"] (mD n K))(e:lZ mg):bN P w K mg base ig (n+1+1) f fd ["found","due"] (mD (n+1) K):=by
 refine F.ok Ec (λt H Q E h=>?_) (λa0 A R s H t Q E hr h=>?_)
 .obtain⟨x,y,d,rfl,_⟩:=h
  rfl
 .obtain⟨x,y,d,rfl,j,g,m,k⟩:=h
  refine⟨_,(aA (bY (PW.pt (mK (cX (aU (cT (K:=K) (cv:= .ty "tuple") (c:= .type "tuple") rfl rfl) oZR e.bM bL (aj (pv 1) (aj (fO (v:= .ty "tuple") oZR e.zA vY rfl) au)))) (lJ (cX (aU (cT (K:=K) (cv:= .ty "list") (c:= .type "list") rfl rfl) oZR e.bM bL (aj (pv 1) (aj (fO (v:= .ty "list") oZR e.gP fu rfl) au))))))) (aA (bY (PW.pt (mK (bD oG (aU (cT (K:=K) (cv:= .ty "tuple") (c:= .type "tuple") rfl rfl) oZR e.bM bL (aj (pv 0) (aj (fO (v:= .ty "tuple") oZR e.zA vY rfl) au))) (aU (cT (K:=K) (cv:= .ty "tuple") (c:= .type "tuple") rfl rfl) oZR e.bM bL (aj (pv 1) (aj (fO (v:= .ty "tuple") oZR e.zA vY rfl) au))) (bh _)) (lJ (bD oG (aU (cT (K:=K) (cv:= .ty "list") (c:= .type "list") rfl rfl) oZR e.bM bL (aj (pv 0) (aj (fO (v:= .ty "list") oZR e.gP fu rfl) au))) (aU (cT (K:=K) (cv:= .ty "list") (c:= .type "list") rfl rfl) oZR e.bM bL (aj (pv 1) (aj (fO (v:= .ty "list") oZR e.gP fu rfl) au))) (bh _))))) (aJ (aZ j_)) bG)
   (aA (bY (bD oG (aU (aW (K:=K) rfl) oZR e.dR cH (aj (pv 0) au)) (aU (aW (K:=K) rfl) oZR e.dR cH (aj (pv 1) au)) (bh _)) (aJ (aZ j_)) bG)
   (aJ (aZ (aU (gA (K:=K) rfl rfl) oZR e.Kf Cq (aj (dB rfl (N:=["mine","other"]) (own:=["mine","other"]) (caps:=[]) (bA.of (by kernel_rfl)) (YH (K:=K) rfl oZR e.afs (aj (pv 0) (aj (pv 1) au))) (λ_ _ _ _=>(Gx (K:=K) (n:=2) rfl rfl (oA (bI (i:=0) (show List.Nodup (["mine","other"]:List Str) by decide +kernel) rfl (Or.inl rfl)) (oA (bI (i:=1) (show List.Nodup (["mine","other"]:List Str) by decide +kernel) rfl (Or.inl rfl)) Gw)))) (λ_ _ _ _=>cO) (λ_ _ _ _=>(bK Y (hr.mono (aav _)) oZR (aj (pv 0) (aj (pv 1) au))))) au)))))) bG)
   (aA (bY (bD Gz (pv 1) j7 (bh _)) (aJ (aZ (cU Gz (pv 0) j7 (bh _)))) bG)
   (aA (bY (PW.pt (mK (cX (aU (cT (K:=K) (cv:= .ty "bool") (c:= .type "bool") rfl rfl) oZR e.bM bL (aj (pv 1) (aj (fO (v:= .ty "bool") oZR e.Cy vZ rfl) au)))) (lJ (cX (aU (cT (K:=K) (cv:= .ty "str") (c:= .type "str") rfl rfl) oZR e.bM bL (aj (pv 1) (aj (fO (v:= .ty "str") oZR e.aft acZ rfl) au))))))) (aJ (aZ (jA (cU dZ (aU (cT (K:=K) (cv:= .ty "bool") (c:= .type "bool") rfl rfl) oZR e.bM bL (aj (pv 0) (aj (fO (v:= .ty "bool") oZR e.Cy vZ rfl) au))) (aU (cT (K:=K) (cv:= .ty "bool") (c:= .type "bool") rfl rfl) oZR e.bM bL (aj (pv 1) (aj (fO (v:= .ty "bool") oZR e.Cy vZ rfl) au))) (bh _)) (iZ (cU dZ (pv 0) (pv 1) (bh _)))))) bG)
   (aJ (aZ (jA (aU (cT (K:=K) (cv:= .ty "int") (c:= .type "int") rfl rfl) oZR e.bM bL (aj (pv 0) (aj (fO (v:= .ty "int") oZR e.Kc Cp rfl) au))) (jA (Vd (aU (cT (K:=K) (cv:= .ty "bool") (c:= .type "bool") rfl rfl) oZR e.bM bL (aj (pv 0) (aj (fO (v:= .ty "bool") oZR e.Cy vZ rfl) au)))) (iZ (cU dZ (pv 0) (pv 1) (bh _)))))))))),?_⟩
  match d,m,j,g with
  | .int i,m,j,g=>
    simp only[Dat] at j g;subst j g;refine⟨_,Z,_,_,false,Z,.int i,Zw K,_,Z,cW ?_⟩;refine⟨_,Z,_,_,false,Z,.int i,Zy K,_,Z,cW ?_⟩;refine⟨_,Z,Z,_,Z,cW ?_⟩;refine⟨_,Z,_,_,false,Z,.int i,pP K,_,Z,cW ?_⟩;refine⟨_,Z,_,_,false,Z,.int i,Zx K,_,Z,cW ?_⟩;refine⟨_,Z,_,_,true,Z,.int i,yt K,_,Z,eO ?_⟩;refine⟨_,Z,_,_,false,Z,.int i,pP K,_,Z,_,Z,eO ?_⟩;refine⟨_,Z,_,Z,Z,?_⟩;rw[aaO rfl];exact k _ (Same.refl _)
  | .str i,m,j,g=>
    simp only[Dat] at j g;subst j g;refine⟨_,Z,_,_,false,Z,.str i,Zq K,_,Z,cW ?_⟩;refine⟨_,Z,_,_,false,Z,.str i,Zt K,_,Z,cW ?_⟩;refine⟨_,Z,Z,_,Z,cW ?_⟩;refine⟨_,Z,_,_,false,Z,.str i,GZ K,_,Z,cW ?_⟩;refine⟨_,Z,_,_,true,Z,.str i,Zr K,_,Z,eO ?_⟩;refine⟨_,Z,_,_,false,Z,.str i,GZ K,_,Z,_,_,false,Z,.str i,GZ K,Z,_,Z,?_⟩;refine cV (λ_=>?_) (λz=>adt (aaO rfl) z);refine⟨_,Z,_,Z,Z,?_⟩;rw[aaO rfl];exact k _ (Same.refl _)
  | .bool i,m,j,g=>
    simp only[Dat] at j g;subst j g;refine⟨_,Z,_,_,false,Z,.bl i,Zz K,_,Z,cW ?_⟩;refine⟨_,Z,_,_,false,Z,.bl i,ZC K,_,Z,cW ?_⟩;refine⟨_,Z,Z,_,Z,cW ?_⟩;refine⟨_,Z,_,_,true,Z,.bl i,nJ K,_,Z,eO ?_⟩;refine eO ?_;refine⟨_,Z,_,_,true,Z,.bl i,nJ K,_,Z,_,_,true,Z,.bl i,nJ K,Z,_,Z,?_⟩;refine cV (λ_=>?_) (λz=>adt (aaO rfl) z);refine⟨_,Z,_,Z,Z,?_⟩;rw[aaO rfl];exact k _ (Same.refl _)
  | .none,m,j,g=>
    simp only[Dat] at j g;subst j g;refine⟨_,Z,_,_,false,Z,.non,Zu K,_,Z,cW ?_⟩;refine⟨_,Z,_,_,false,Z,.non,Zv K,_,Z,cW ?_⟩;refine⟨_,Z,Z,_,Z,eO ?_⟩;exact⟨_,Z,Z,k _ (Same.refl _)⟩
  | .list q,m,j,g=>
    simp only[Dat] at j g;obtain⟨a,t,rfl,o,L⟩:=j;obtain⟨b,u,rfl,l,db⟩:=g;have C:t.length=q.length:=L.length;have B:u.length=q.length:=db.length;have O:q.length<=20000:=m.1;refine⟨_,Z,_,_,false,Z,.lst l,lN K,_,Z,cW ?_⟩;refine⟨_,Z,_,_,true,Z,.lst l,jL K,_,Z,eO ?_⟩;refine⟨_,Z,_,_,false,Z,.lst o,lN K,_,Z,_,_,false,Z,.lst l,lN K,Z,_,Z,?_⟩;refine vI rfl ?_;refine⟨_,Z,_,_,true,Z,.lst o,jL K,_,Z,_,_,true,Z,.lst l,jL K,Z,_,Z,?_⟩;refine vI rfl ?_;refine⟨_,Z,a,_,Z,.inl (bF.of o),_,Z,b,_,Z,.inl (bF.of l),Z,_,Z,?_⟩;refine vI (by rw[C,B]) ?_;refine⟨_,Z,_,Z,a,b,t,u,Z,.inl ⟨bF.of o,bF.of l,λD V=>?_⟩⟩;refine RP (K:=K) C B (λi=>some (.bl true)) V (bF.of o) (bF.of l) LZ (λi x y H2 G F U T r X S=>?_) (λH2 r J=>?_)
    .obtain⟨d,I,j⟩:=L.get U
     obtain⟨d',p,g⟩:=db.get T;rw[I] at p;cases p;exact⟨_,Z,_,Z,x,y,d,Z,j.same r d,g.same r d,m.2 d (aaN I),λW M=>S _ W M rfl⟩
    .rw[Ez] at J
     refine⟨D,List.replicate q.length true,Z,bF.of (by rw[J,List.map_replicate]),?_⟩;rw[show (List.replicate q.length true).all id=true by simp];exact k H2 r
  | .tuple q,m,j,g=>
    simp only[Dat] at j g;obtain⟨a,t,rfl,o,L⟩:=j;obtain⟨b,u,rfl,l,db⟩:=g;have C:t.length=q.length:=L.length;have B:u.length=q.length:=db.length;have O:q.length<=20000:=m.1;refine⟨_,Z,_,_,true,Z,.tup l,iG K,_,Z,eO ?_⟩;refine eO ?_;refine⟨_,Z,_,_,true,Z,.tup o,iG K,_,Z,_,_,true,Z,.tup l,iG K,Z,_,Z,?_⟩;refine vI rfl ?_;refine⟨_,Z,_,_,false,Z,.tup o,qW K,_,Z,_,_,false,Z,.tup l,qW K,Z,_,Z,?_⟩;refine vI rfl ?_;refine⟨_,Z,a,_,Z,.inr (cC.of o),_,Z,b,_,Z,.inr (cC.of l),Z,_,Z,?_⟩;refine vI (by rw[C,B]) ?_;refine⟨_,Z,_,Z,a,b,t,u,Z,.inr ⟨cC.of o,cC.of l,λD V=>?_⟩⟩;refine Mj (K:=K) C B (λi=>some (.bl true)) V o l LZ (λi x y H2 G F U T r X S=>?_) (λH2 r J=>?_)
    .obtain⟨d,I,j⟩:=L.get U
     obtain⟨d',p,g⟩:=db.get T;rw[I] at p;cases p;exact⟨_,Z,_,Z,x,y,d,Z,j.same r d,g.same r d,m.2 d (aaN I),λW M=>S _ W M rfl⟩
    .rw[Ez] at J
     refine⟨D,List.replicate q.length true,Z,bF.of (by rw[J,List.map_replicate]),?_⟩;rw[show (List.replicate q.length true).all id=true by simp];exact k H2 r
def zZ(ns bs:List Int)(r:Rw):PyData:= .tuple [.str (tO r),.int (je r),oD (Bf ns r),oD (Ng bs r)]
def Hs(x:Option Int):Dat H (oV x) (oD x):=by cases x<;>simp only[oV,oD,Dat]
def RM{t:Addr}{bs:List Int}{r:Rw}(h:H t=some (.tup (zY ns bs r))):Dat H (.ref t) (zZ ns bs r):=by unfold zZ zY at *;simp only[Dat];exact⟨t,_,Z,h,by simp only[aV,Dat,and_true,true_and];exact⟨Hs _,Hs _⟩⟩
def U_(ns bs:List Int)(r:Rw):SQ (n+2) (zZ ns bs r):=by
 refine⟨by show 4<=20000;decide,λd a=>?_⟩;have:∀x:Option Int,SQ (n+1) (oD x):=λx=>by cases x<;>trivial
 simp only[List.mem_cons,List.mem_nil_iff,or_false] at a;rcases a with rfl|rfl|rfl|rfl
 .trivial
 .trivial
 .exact this _
 .exact this _
structure RT(τ:Tg)(H:Hp)(r:Addr):Prop where
 R:eF H r
 off:∀x o,H x=some o->τ x≠[]->x≠r/\Off H r x
 un:rF τ H
def RT.draw{r:Addr}(h:RT τ H r)(k:KR r H H')(b:eF H' r):RT τ H' r:=by
 have a:rF τ H':=h.un.dom λx e=>by refine Kp.new k.1 e ?_;exact b.at
 refine⟨b,λx o e t=>?_,a⟩;cases q:H x with
 | none=>exact adt (h.un x q) t
 | some u=>
   obtain⟨n,f⟩:=h.off x u q t;exact⟨n,k.2 x u q n f⟩
def RT.stp{r:Addr}(h:RT τ H r)(k:k_ i τ H H'):RT τ H' r:=by
 obtain⟨g,c,w,y,p,t,b,j,d,q⟩:=h.R
 have m:τ r=[]:=by
  by_cases z:τ r=[]
  .exact z
  .exact adt rfl (h.off r _ b z).1
 have s:τ g=[]:=by
  by_cases z:τ g=[]
  .exact z
  .exact adt rfl ((h.off g _ j z).2 _ _ _ _ b).1
 have v:τ c=[]:=by
  by_cases z:τ c=[]
  .exact z
  .exact adt rfl ((h.off c _ d z).2 _ _ _ _ b).2
 have a:=k.keep _ _ b (by rw[m];simp);refine⟨⟨g,c,w,y,p,t,a,k.keep _ _ j (by rw[s];simp),k.keep _ _ d (by rw[v];simp),q⟩,λx o e t=>?_,h.un.dom k.dom⟩;cases q:H x with
 | none=>exact adt (h.un x q) t
 | some u=>
   obtain⟨n,f⟩:=h.off x u q t;refine⟨n,λC D B A l=>?_⟩;rw[a] at l;cases l;exact f _ _ _ _ b
def RT.same{r:Addr}(h:RT τ H r)(k:Same H H'):RT τ H' r:=h.stp (i:=0) (k_.of_same k)
def RT.kr{r:Addr}(h:RT τ H r)(k:KR r H H'):Mv i τ H τ H':=⟨λx o e t=>⟨k.1 _ _ e (h.off x o e (by
 rcases t with t|t
 .rw[t];simp
 .intro z;rw[z] at t;cases t)).1,Z⟩,h.R.tups k.1⟩
def RT.keep{r x:Addr}{o:HO}(h:RT τ H r)(k:KR r H H')(e:H x=some o)(t:τ x≠[]):H' x=some o:=k.1 _ _ e (h.off x o e t).1
def RT.new{r:Addr}(R:eF H r)(a:List Addr)(t:List Nat)(b:∀x∈a,(∃o,H x=some o)/\x≠r/\Off H r x):RT (λx=>if x∈a then t else []) H r:=by
 refine⟨R,λx o e n=>?_,λx e=>?_⟩
 .by_cases z:x∈a
  .exact(b x z).2
  .simp only[z] at n;exact adt rfl n
 .by_cases z:x∈a
  .obtain⟨o,c⟩:=(b x z).1
   rw[c] at e;cases e
  .simp only[z];rfl
theorem RT.claim{τ:Tg}{H H':Hp}{r p:Addr}{t:List Nat}(h:RT τ H r)(k:Same H H')(b:H p=none)(a:∃o,H' p=some o):RT (aQ τ p t) H' r:=by
 have c:=h.same k;refine⟨c.R,λx o e n=>?_,h.un.claim k a⟩
 by_cases z:x=p
 .subst z
  exact⟨h.R.ne b,(h.R.off b).same h.R k⟩
 .rw[aR z] at n
  exact c.off x o e n
def RT.made{r:Addr}(h:RT τ H r)(k:Same H H')(b:∀x u,H x=some u->τ' x=τ x)(un:rF τ' H'):RT τ' H' r:=by
 have a:=h.same k;refine⟨a.R,λx o e n=>?_,un⟩;cases q:H x with
 | some u=>exact a.off x o e (by rw[←b x u q];exact n)
 | none=>exact⟨h.R.ne q,(h.R.off q).same h.R k⟩
def ac1:∀b:Fin 8,yP (Str.ofString "abcdefgh").cps.toList ((b.val:Nat):Int)=some (97+b.val):=by decide +kernel
def Qa{i:Int}(a:0<=i)(b:i<8):yP (Str.ofString "abcdefgh").cps.toList i=some (97+i.toNat):=by have:=ac1 ⟨i.toNat,LZ⟩;simp only[Int.toNat_of_nonneg a] at this;exact this
def Qg:(Str.ofString "abcdefgh").length<=sizeLine:=by rw[sizeLine_eq];decide
theorem WR{x:SX}(h:H p=some (.tup (match x with | .num n=>[.str "number",.int n] | .box b=>[.str "box",.str (vX b)]))):Dat H (.ref p) (DP x):=by cases x<;>simp only[DP,Dat]<;>refine⟨p,_,Z,h,?_⟩<;>simp only[aV,Dat,and_true]
def ZV{a b:V}{q:Bool}{x y:SX}(h:H p=some (.tup [.str (if q then "plus" else "minus"),a,b]))(c:Dat H a (DP x))(db:Dat H b (DP y)):Dat H (.ref p) (oR (.two q x y)):=by simp only[oR,Dat];refine⟨p,_,Z,h,?_⟩;simp only[aV,Dat,and_true];exact⟨trivial,c,db⟩
inductive Ga(K:zzy)(vs:List V)(H:Hp)(Q:VK)(dY:XK):Prop|m:∀(r:Addr)(b:Int),vs=[.ref r,.int b]->eF H r->0<b->b<=8->(∀(v:V)(x:SX)(H':Hp),Dat H' v (DP x)->Tn x->eF H' r->KR r H H'->Q v H')->Ga K vs H Q dY
theorem Vt(F:fU K "_law_plain" "_law_plain" Ax f fd)(l:FnAt P w K mg base 1 "_law_draw" ["reel","many"] (kh K)):bN P w K mg base ig 2 f fd ["reel","boxes"] (Ga K):=by
 refine F.ok Ea (λu H Q E h=>?_) (λv A m s H u Q E j h=>?_)
 .obtain⟨r,b,rfl,_⟩:=h
  rfl
 .obtain⟨r,b,rfl,R,y,D,k⟩:=h
  refine⟨_,(aA (bH (i:=2) Ea.nd rfl (Or.inl rfl) (bK l (j.mono DZ) oZR (aj (pv 0) (aj aG au))))
   (aA (bY (bD dZ (pv 2) aG (bh _)) (aJ (aZ (dI (aj bO (aj (bK l (j.mono DZ) oZR (aj (pv 0) (aj aG au))) au))))) bG)
   (aA (bY (bD dZ (pv 2) aG (bh _)) (aJ (aZ (dI (aj bO (aj (bK l (j.mono DZ) oZR (aj (pv 0) (aj aG au))) au))))) bG)
   (aJ (aZ (dI (aj bO (aj (aP LC bO (bK l (j.mono DZ) oZR (aj (pv 0) (aj (pv 1) au))) (λ_ _=>rfl)) au)))))))),?_⟩
  refine⟨_,Z,r,3,Z,R,DZ,DZ,λz H1 C B t q=>?_⟩
  have num:∀(H2:Hp)(n:Int)(p:Addr),0<=n->n<1000->eF H2 r->KR r H H2->H2 p=none->Q (.ref p) (upd H2 p (.tup [.str "number",.int n])):=λH2 n p a g R2 c d=>by have e:=aH (o:=HO.tup [V.str (Str.ofString "number"),V.int n]) d;exact k _ (.num n) _ (WR (x:= .num n) ao) ⟨a,g⟩ (R2.keep e) (c.trans (KR.same R2 e))
  refine⟨_,Z,Z,_,Z,?_⟩;refine cV (λ_=>?_) (λ_=>?_)
  .refine⟨_,Z,r,1000,Z,t,DZ,DZ,λn H2 a g R2 c=>?_⟩
   exact⟨sZ2,λp d=>num H2 n p a g R2 (q.trans c) d⟩
  refine⟨_,Z,Z,_,Z,?_⟩;refine cV (λ_=>?_) (λ_=>?_)
  .refine⟨_,Z,r,4,Z,t,DZ,DZ,λn H2 a g R2 c=>?_⟩
   exact⟨sZ2,λp d=>num H2 n p a LZ R2 (q.trans c) d⟩
  refine⟨_,Z,_,Z,r,b,Z,t,y,LZ,λn H2 a g R2 c=>?_⟩;refine⟨_,_,_,Z,Z,Qg,Qa a LZ,sZ2,λp d=>?_⟩;have e:=aH (o:=HO.tup [V.str (Str.ofString "box"),V.str (vX n.toNat)]) d;exact k _ (.box n.toNat) _ (WR (x:= .box n.toNat) ao) (by show n.toNat<8;lia) (R2.keep e) ((q.trans c).trans (KR.same R2 e))
inductive FP(K:zzy)(vs:List V)(H:Hp)(Q:VK)(dY:XK):Prop|m:∀(r:Addr)(b:Int),vs=[.ref r,.int b]->eF H r->0<b->b<=8->(∀(v:V)(e:Ku)(H':Hp),Dat H' v (oR e)->xQ e->eF H' r->KR r H H'->Q v H')->FP K vs H Q dY
theorem Vl(F:fU K "_law_worth" "_law_worth" Aw f fd)(bT:FnAt P w K mg base 1 "_law_draw" ["reel","many"] (kh K))(L:FnAt P w K mg base 2 "_law_plain" ["reel","boxes"] (Ga K)):bN P w K mg base ig 3 f fd ["reel","boxes"] (FP K):=by
 refine F.ok wX (λO H Q E h=>?_) (λY A j s H O Q E m h=>?_)
 .obtain⟨r,b,rfl,_⟩:=h
  rfl
 .obtain⟨r,b,rfl,R,G,D,k⟩:=h
  refine⟨_,(aA (bH (i:=2) wX.nd rfl (Or.inl rfl) (bK bT (m.mono DZ) oZR (aj (pv 0) (aj aG au))))
   (aA (bH (i:=3) wX.nd rfl (Or.inl rfl) (bK L (m.mono DZ) oZR (aj (pv 0) (aj (pv 1) au))))
   (aA (bY (bD tV (pv 2) aG (bh _)) (aJ (aZ (pv 3))) bG)
   (aJ (aZ (dI (aj (aP (aO (K:=K) rfl) (cP (aj bO (aj bO au))) (bR pI (pv 2) aG) (λ_ _=>rfl)) (aj (pv 3) (aj (bK L (m.mono DZ) oZR (aj (pv 0) (aj (pv 1) au))) au))))))))),?_⟩
  refine⟨_,Z,r,4,Z,R,DZ,DZ,λz H1 z0 z1 R1 T=>?_⟩;refine⟨_,Z,_,Z,r,b,Z,R1,G,D,λv x H2 C t R2 S=>?_⟩;refine⟨_,Z,_,_,Z,Z,_,Z,?_⟩;have c:=T.trans S;refine cV (λ_=>?_) (λM=>?_)
  .exact⟨_,Z,k v (.one x) H2 C t R2 c⟩
  have z2:2<=z:=by simp at M;lia
  refine⟨sZ2,λl W=>?_⟩;have g:=aH (o:=HO.lst [V.str (Str.ofString "plus"),V.str (Str.ofString "minus")]) W
  obtain⟨q,eq⟩:∃q:Bool,yP [V.str (Str.ofString "plus"),V.str (Str.ofString "minus")] (z-2)=some (.str (if q then "plus" else "minus")):=by
   have:z=2\/z=3:=by lia
   rcases this with rfl|rfl
   .exact⟨true,Z⟩
   .exact⟨false,Z⟩
  refine⟨_,Z,_,_,Z,Z,_,_,_,_,Z,Z,bF.of ao,eq,?_⟩;have J:=R2.keep g;refine⟨_,Z,_,Z,_,Z,r,b,Z,J,G,D,λu y H4 X N I B=>?_⟩;refine⟨sZ3,λp U=>?_⟩;have d:=aH (o:=HO.tup [V.str (if q then "plus" else "minus"),v,u]) U;have n:=C.keep (λa xs e=>d _ _ (B.tups J _ _ (g _ _ e))) _ (LR x);exact k _ (.two q x y) _ (ZV ao n (X.same d _)) ⟨t,N⟩ (I.keep d) (((c.trans (KR.same R2 g)).trans B).trans (KR.same I d))
section
variable{x:V}{b c:Nat}{e f:Ku}
def WW(h:H p=some (.tup [.str "load",.str (vX b),.int c])):Dat H (.ref p) (ou (.load b c)):=by simp only[ou,Dat];exact⟨p,_,Z,h,by simp only[aV,Dat,and_true]⟩
def RN(h:H p=some (.tup [.str "store",.int c,x]))(d:Dat H x (oR e)):Dat H (.ref p) (ou (.store c e)):=by simp only[ou,Dat];exact⟨p,_,Z,h,by simp only[aV,Dat,and_true,true_and];exact d⟩
def WT(h:H p=some (.tup [.str "swap",.str (vX b),.int c,x]))(d:Dat H x (oR e)):Dat H (.ref p) (ou (.swap b c e)):=by simp only[ou,Dat];exact⟨p,_,Z,h,by simp only[aV,Dat,and_true,true_and];exact d⟩
def Z0(h:H p=some (.tup [.str "let",.str (vX b),x]))(d:Dat H x (oR e)):Dat H (.ref p) (ou (.yL b e)):=by simp only[ou,Dat];exact⟨p,_,Z,h,by simp only[aV,Dat,and_true,true_and];exact d⟩
def ZX(h:H p=some (.tup [.str "say",x]))(d:Dat H x (oR e)):Dat H (.ref p) (ou (.say e)):=by simp only[ou,Dat];exact⟨p,_,Z,h,by simp only[aV,Dat,and_true,true_and];exact d⟩
def acV(h:H p=some (.tup [.str "go",.int n])):Dat H (.ref p) (ou (.go n)):=by simp only[ou,Dat];exact⟨p,_,Z,h,by simp only[aV,Dat,and_true]⟩
def ZS{q:Bool}(h:H p=some (.tup [.str "unless",.str (if q then "=" else "<"),x,y,.int n]))(d:Dat H x (oR e))(d':Dat H y (oR f)):Dat H (.ref p) (ou (.Dd q e f n)):=by simp only[ou,Dat];exact⟨p,_,Z,h,by simp only[aV,Dat,and_true,true_and];exact⟨d,d'⟩⟩
end
inductive rZ(CH:Addr)(K:zzy)(vs:List V)(H:Hp)(Q:VK)(dY:XK):Prop|m:∀(A:qj)(s:bJ),vs=[.ref A.h]->pU CH H A s->(∀(B:qj)(H':Hp),H B.h=none->H B.b=none->H B.sy=none->B.r=A.r->pU CH H' B s->Same H H'->Q (.ref B.h) H')->rZ CH K vs H Q dY
def abG(r b a sy:Addr)(n:Int)(st:Str):cM "in_boxes" (.ref a) (hF r n b sy st)=hF r n a sy st:=by rfl
def abF(r b sy a:Addr)(n:Int)(st:Str):cM "sayings" (.ref a) (hF r n b sy st)=hF r n b a st:=by rfl
theorem Lh(F:fU K "another" "Hand.another" lG f fd)(d:fG K aq)(M5:rJ P w K mg base 1 aq "Hand" ["self","rows"] [] (uW aq K))(X:lZ mg):bN P w K mg base ig 3 f fd ["self"] (rZ aq K):=by
 refine F.ok pX (λY H Q E h=>?_) (λa2 A D s H Y Q E hr h=>?_)
 .obtain⟨A,s,rfl,_⟩:=h
  rfl
 .obtain⟨B,s,rfl,c,k⟩:=h
  refine⟨_,(aA (bH (i:=1) pX.nd rfl (Or.inl rfl) (oF M5 (hr.mono DZ) oZR (aj (bf (K:=K) rfl (pv 0) rfl) au)))
   (aA (dz (K:=K) rfl (pv 1) (bf (K:=K) rfl (pv 0) rfl) rfl)
   (aA (dz (K:=K) rfl (pv 1) (dh (cA (K:=K) rfl) oZR X.gP fu (aj (bf (K:=K) rfl (pv 0) rfl) au)) rfl)
   (aA (dz (K:=K) rfl (pv 1) (dh (cA (K:=K) rfl) oZR X.gP fu (aj (bf (K:=K) rfl (pv 0) rfl) au)) rfl)
   (aA (dz (K:=K) rfl (pv 1) (bf (K:=K) rfl (pv 0) rfl) rfl)
   (aJ (aZ (pv 1)))))))),?_⟩
  refine⟨_,Z,B.h,aq,B.hx,_,_,Z,c.h,d.cls,d.qT,Z,λh a j G nx=>?_⟩;have n:(upd H a (.own h)) h=none:=by rw[aF nx.symm];exact j
  have O:Same H (upd (upd H a (.own h)) h (.ins aq a [])):=(aH G).trans (aH n);refine⟨h,B.r,a,Z,ao,λv g H1 a0 a3 a5 e1 a1 a4 S=>⟨Z,?_⟩⟩;have S1:Same H H1:=λx u e=>S _ _ (O _ _ e) (aB e j);clear S O n;have c1:=c.same S1;refine⟨_,Z,B.h,aq,B.hx,_,_,Z,c1.h,d.cls,d.vA,Z,_,Z,h,aq,a,_,Z,e1,d.cls,d.vA,(by show 5<1000;decide),?_⟩;rw[Bg];have S2:Same H (upd H1 h (.ins aq a (hF B.r s.pos v g "waits"))):=λx u e=>by rw[aF (aB e j)];exact S1 _ _ e
  have L:(upd H1 h (.ins aq a (hF B.r s.pos v g "waits"))) h=some (.ins aq a (hF B.r s.pos v g "waits")):=ao;generalize (upd H1 h (.ins aq a (hF B.r s.pos v g "waits")))=H2 at S2 L ⊢;have W:=c.same S2;refine⟨_,Z,B.h,aq,B.hx,_,_,Z,W.h,d.cls,d.iJ,Z,B.b,_,Z,.inl (bF.of W.b),λb I=>?_⟩;have R:=aH (o:=HO.lst (s.bs.map V.int)) I;have M:b≠h:=(aB L I).symm;refine⟨_,Z,h,aq,a,_,Z,R _ _ L,d.cls,d.iJ,(by show 5<1000;decide),?_⟩;rw[abG];have fb:H b=none:=S2.free I;have z:Same H (upd (upd H2 b (.lst (s.bs.map V.int))) h (.ins aq a (hF B.r s.pos b g "waits"))):=λx u e=>by rw[aF (aB e j)];exact R _ _ (S2 _ _ e)
  have J:(upd (upd H2 b (.lst (s.bs.map V.int))) h (.ins aq a (hF B.r s.pos b g "waits"))) h=some (.ins aq a (hF B.r s.pos b g "waits")):=ao;have l:(upd (upd H2 b (.lst (s.bs.map V.int))) h (.ins aq a (hF B.r s.pos b g "waits"))) b=some (.lst (s.bs.map V.int)):=by rw[aF M,ao]
  generalize (upd (upd H2 b (.lst (s.bs.map V.int))) h (.ins aq a (hF B.r s.pos b g "waits")))=r at z J l ⊢;have U:=c.same z;refine⟨_,Z,B.h,aq,B.hx,_,_,Z,U.h,d.cls,d.kY,Z,B.sy,_,Z,.inl (bF.of U.y),λy t=>?_⟩;have C:=aH (o:=HO.lst (s.sy.map V.int)) t;have m:y≠h:=(aB J t).symm;have Q6:b≠y:=aB l t;refine⟨_,Z,h,aq,a,_,Z,C _ _ J,d.cls,d.kY,(by show 5<1000;decide),?_⟩;rw[abF];have fy:H y=none:=z.free t;have N:Same H (upd (upd r y (.lst (s.sy.map V.int))) h (.ins aq a (hF B.r s.pos b y "waits"))):=λx u e=>by rw[aF (aB e j)];exact C _ _ (z _ _ e)
  have T:(upd (upd r y (.lst (s.sy.map V.int))) h (.ins aq a (hF B.r s.pos b y "waits"))) h=some (.ins aq a (hF B.r s.pos b y "waits")):=ao;have q:(upd (upd r y (.lst (s.sy.map V.int))) h (.ins aq a (hF B.r s.pos b y "waits"))) b=some (.lst (s.bs.map V.int)):=by rw[aF M];exact C _ _ l
  have p:(upd (upd r y (.lst (s.sy.map V.int))) h (.ins aq a (hF B.r s.pos b y "waits"))) y=some (.lst (s.sy.map V.int)):=by rw[aF m,ao]
  generalize (upd (upd r y (.lst (s.sy.map V.int))) h (.ins aq a (hF B.r s.pos b y "waits")))=H4 at N T q p ⊢;have c4:=c.same N;refine⟨_,Z,B.h,aq,B.hx,_,_,Z,c4.h,d.cls,d.jJ,Z,_,Z,h,aq,a,_,Z,T,d.cls,d.jJ,(by show 5<1000;decide),?_⟩;rw[Gu];exact⟨_,Z,k ⟨h,a,B.r,b,y⟩ _ j fb fy rfl ⟨ao,by rw[aF M];exact q,by rw[aF m];exact p,Q6,c.bl⟩ (λx u e=>by rw[aF (aB e j)];exact N _ _ e)⟩
inductive wK(CW CH:Addr)(K:zzy)(vs:List V)(H:Hp)(Q:VK)(dY:XK):Prop|m:∀(i i':Nat)(τ:Tg)(W:rE)(S:dD),vs=[.ref W.o]->j9 CW CH i τ H W S->jW S->S.m<=100->i'≠0->(∀(τ':Tg)(W':rE)(H':Hp),j9 CW CH i' τ' H' W' S->(∀x u,H x=some u->τ' x=τ x)->Same H H'->Q (.ref W'.o) H')->wK CW CH K vs H Q dY
theorem Y5(F:fU K "twin" "Works.twin" pA f fd)(C:cD K ak)(aL:fG K aq)(HF:rJ P w K mg base 7 ak "Works" ["self","program","cells"] [] (λvs H Q _=>mC ak aq bW K vs H Q λ_ _ _=>False))(CP:MethAt P w K mg base 3 aq "another" ["self"] (rZ aq K))(Bt:lZ mg):bN P w K mg base ig 9 f fd ["self"] (wK ak aq K):=by
 refine F.ok tR (λvs H Q E h=>?_) (λc9 A b7 s H vs Q E hr h=>?_)
 .obtain⟨i,c,τ,W,S,rfl,_⟩:=h
  rfl
 .obtain⟨i,c,τ,W,S,rfl,w,g,ml,i0,k⟩:=h
  refine⟨_,(aA (bH (i:=1) tR.nd rfl (Or.inl rfl) (oF HF (hr.mono DZ) oZR (aj (bf (K:=K) rfl (pv 0) rfl) (aj (bf (K:=K) rfl (pv 0) rfl) au))))
   (aA (dz (K:=K) rfl (pv 1) (dB rfl (N:=["one"]) (own:=["one"]) (caps:=[]) (bA.of (by kernel_rfl)) (cQ (K:=K) rfl (bf (K:=K) rfl (pv 0) rfl)) (λ_ _ _ _=>(bI (i:=0) (show List.Nodup (["one"]:List Str) by decide +kernel) rfl (Or.inl rfl))) (λ_ _ _ _=>cO) (λ_ _ _ _=>(bU CP aL.cls (hr.mono DZ) (pv 0)))) rfl)
   (aA (dz (K:=K) rfl (pv 1) (dh (cA (K:=K) rfl) oZR Bt.gP fu (aj (bf (K:=K) rfl (pv 0) rfl) au)) rfl)
   (aJ (aZ (pv 1)))))),?_⟩
  have good:qR S.m S.ns:=⟨by rw[w.nl],g.n⟩;refine⟨_,Z,W.o,ak,W.dx,_,_,Z,w.o,C.cls,C.sU,Z,_,Z,W.o,ak,W.dx,_,_,Z,w.o,C.cls,C.jB,Z,λo dx ho c2 b8=>?_⟩;have b1:(upd H dx (.own o)) o=none:=by rw[aF b8.symm];exact ho
  have U:Same H (upd (upd H dx (.own o)) o (.ins ak dx [])):=(aH c2).trans (aH b1);refine⟨c,τ,o,dx,W.pg,W.L,W.rs,S.m,.ref W.nb,S.ns,S.hs.map bJ.rws,Z,ao,U _ _ w.pg,U _ _ w.L,by rw[aak];exact w.rl,λX r x O q=>?_,by rw[aak];exact w.hn,ml,w.un.same U,i0,by rw[w.nl];exact ml,.inr ⟨W.nb,Z,U _ _ w.nb⟩,λ_ G b H1 eo m tg kp=>⟨Z,?_⟩,λbad=>adt good bad⟩
  .rw[aap] at q
   cases e:S.hs[X]? with
   | none=>rw[e] at q;cases q
   | some s=>rw[e] at q;cases q;exact(w.rs X r s O e).2.same U
  have S1:Same H H1:=λx u e=>kp _ _ (U _ _ e) (aB e ho);have a2:∀x u,H x=some u->G x=τ x:=λx u e=>tg x u (U _ _ e) (aB e ho);have fo:H b.o=none:=by rw[eo];exact ho
  have b3:V.ref o=V.ref b.o:=by rw[eo]
  rw[b3];clear kp tg U b1 b3;have wA:j9 ak aq i G H1 W S:=w.mv (Mv.tags S1 a2) m.un;refine⟨_,Z,W.o,ak,W.dx,_,_,Z,wA.o,C.cls,C.mR,Z,W.hl,Z,⟨_,bF.of wA.hl⟩,λD hD=>?_⟩;have sD:=aH (o:=HO.lst []) hD;refine jC (K:=K) (xs:=W.hd.map λa=>V.ref a.h) (λj σ R=>∃(v:Option V) (d:Tg) (J:List qj),σ=[v]/\J.length=j/\Same H1 R/\R D=some (.lst (J.map λa=> .ref a.h))/\rF d R/\(∀x u,H1 x=some u->d x=G x)/\d D=[c,2] /\ ∀(k:Nat)(A:qj)(s:bJ),J[k]?=some A->S.hs[k]?=some s->yR aq c k S.m d R A s) ?_ ?_ ?_ ?_
  .exact⟨none,aQ G D [c,2],[],Z,Z,sD,ao,m.un.claim sD ⟨_,ao⟩,λx u e=>aR (aB e hD),bC,λk A s e=>by simp at e⟩
  .rintro j σ R _ ⟨v,d,J,rfl,_,sc,_⟩
   exact bF.of (sc _ _ wA.hl)
  .rintro j x σ R hj ⟨v,d,J,rfl,lj,sc,p,a6,DY,a8,hc⟩
   rw[aap] at hj
   obtain⟨A,eA,rfl⟩:∃A,W.hd[j]?=some A/\x=.ref A.h:=by
    cases e:W.hd[j]? with
    | none=>rw[e] at hj;cases hj
    | some A=>rw[e] at hj;exact⟨A,Z,(aaY hj).symm⟩
   have wc:j9 ak aq i d R W S:=wA.mv (Mv.tags sc DY) a6;have jl:j<S.hs.length:=by rw[←w.len];exact(aam.mp eA).1
   have es:S.hs[j]?=some S.hs[j]:=by simp[jl]
   have a:=wc.hd j A _ eA es;dsimp only[bV,uO];rw[adq rfl];refine⟨_,Z,A.h,A.hx,_,Z,a.c.h,Z,A,_,Z,a.c,λB H7 fh fb fy er I s7=>?_⟩;have c0:D≠B.h:=aB p fh;have c1:D≠B.b:=aB p fb;have b9:D≠B.sy:=aB p fy;have T:∀x u,R x=some u->aQ (aQ (aQ d B.h [c,4,j]) B.b [c,5,j]) B.sy [c,6,j] x=d x:=λy u e=>by rw[aR (aB e fy),aR (aB e fb),aR (aB e fh)]
   have U7:rF (aQ (aQ (aQ d B.h [c,4,j]) B.b [c,5,j]) B.sy [c,6,j]) H7:=λy e=>by
    have n1:y≠B.h:=λz=>by rw[z,I.h] at e;cases e
    have n2:y≠B.b:=λz=>by rw[z,I.b] at e;cases e
    have n3:y≠B.sy:=λz=>by rw[z,I.y] at e;cases e
    rw[aR n3,aR n2,aR n1];exact a6 y (s7.free e)
   have Th:aQ (aQ (aQ d B.h [c,4,j]) B.b [c,5,j]) B.sy [c,6,j] B.h=[c,4,j]:=by rw[aR I.nhy,aR I.Zi,bC]
   have Tb:aQ (aQ (aQ d B.h [c,4,j]) B.b [c,5,j]) B.sy [c,6,j] B.b=[c,5,j]:=by rw[aR I.Q6,bC]
   have Ty:aQ (aQ (aQ d B.h [c,4,j]) B.b [c,5,j]) B.sy [c,6,j] B.sy=[c,6,j]:=bC;generalize aQ (aQ (aQ d B.h [c,4,j]) B.b [c,5,j]) B.sy [c,6,j]=a5 at T U7 Th Tb Ty
   have q7:tK [[c,2]] d R a5 (upd H7 D (.lst ((J.map λa=>V.ref a.h)++[V.ref B.h]))):=by
    refine⟨λy u e n=>⟨?_,T y u e⟩,λy ys e=>?_⟩
    .rw[aF (λz:y=D=>n (by rw[z,a8];simp))]
     exact s7 _ _ e
    .rw[aF (dG e p ZN)]
     exact s7 _ _ e
   have c8:J.length<=100:=by rw[lj];have:=w.hn;lia
   refine⟨_,s7 _ _ p,(by rw[aak,sizeLine_eq];lia),some (.ref A.h),a5,J++[B],Z,by simp[lj],λy u e=>?_,by rw[ao];simp,?_,λy u e=>?_,?_,?_⟩
   .rw[aF (aB e hD)]
    exact s7 _ _ (sc _ _ e)
   .exact U7.dom λy e=>by
     by_cases z:y=D
     .rw[z,ao] at e;cases e
     .rw[aF z] at e;exact e
   .rw[T y u (sc _ _ e)]
    exact DY y u e
   .rw[T _ _ p];exact a8
   .intro k A' s' O q
    rcases q_ O with O|⟨e1,rfl⟩
    .exact(hc k A' s' O q).mvT q7 MZ MZ MZ MZ
    .rw[e1,lj,es] at q
     cases q;rw[e1,lj];obtain⟨t9,R9⟩:=iz ⟨a.tr,a.r⟩ q7 MZ;exact⟨⟨by rw[aF c0.symm];exact I.h,by rw[aF c1.symm];exact I.b,by rw[aF b9.symm];exact I.y,I.Q6,I.bl⟩,by rw[er];exact R9,by rw[er];exact t9,Th,Tb,Ty⟩
  rintro σ H8 ⟨v,l,J,rfl,b0,L,c4,b6,Dg,a9,c3⟩;rw[aak] at b0;have ZF:=L _ _ m.o;have a1:l b.o=[c,0]:=by rw[Dg _ _ m.o];exact m.to
  refine⟨_,Z,b.o,ak,b.dx,_,Z,ZF,C.cls,C.mR,(by show 4<1000;decide),?_⟩;have M:(upd H8 b.o (.ins ak b.dx (cM "hands" (.ref D) (wF b.pg b.nb b.hl b.tn)))) b.o=some (.ins ak b.dx (wF b.pg b.nb D b.tn)):=ao;have q9:tK [[c,0]] l H8 l (upd H8 b.o (.ins ak b.dx (cM "hands" (.ref D) (wF b.pg b.nb b.hl b.tn)))):=tK.set (by rw[a1];simp) ZF XZ
  have a0:rF l (upd H8 b.o (.ins ak b.dx (cM "hands" (.ref D) (wF b.pg b.nb b.hl b.tn)))):=b6.dom λy e=>by
   by_cases z:y=b.o
   .rw[z,ao] at e;cases e
   .rw[aF z] at e;exact e
  have S9:Same H (upd H8 b.o (.ins ak b.dx (cM "hands" (.ref D) (wF b.pg b.nb b.hl b.tn)))):=λx u e=>by rw[aF (aB e fo)];exact L _ _ (S1 _ _ e)
  generalize (upd H8 b.o (.ins ak b.dx (cM "hands" (.ref D) (wF b.pg b.nb b.hl b.tn))))=Y at M q9 a0 S9 ⊢;have w9:j9 ak aq i l Y W S:=w.mv (Mv.tags S9 λx u e=>(Dg x u (S1 _ _ e)).trans (a2 x u e)) a0;refine⟨_,Z,W.o,ak,W.dx,_,_,Z,w9.o,C.cls,C.sS,Z,W.tn,_,Z,.inl (bF.of w9.tn),λt ht=>?_⟩;have st:=aH (o:=HO.lst (S.ts.map V.int)) ht;have a3:t≠b.o:=(aB M ht).symm;refine⟨_,Z,b.o,ak,b.dx,_,Z,st _ _ M,C.cls,C.sS,(by show 4<1000;decide),?_⟩;have Rp:(upd (upd Y t (.lst (S.ts.map V.int))) b.o (.ins ak b.dx (cM "turns" (.ref t) (wF b.pg b.nb D b.tn)))) b.o=some (.ins ak b.dx (wF b.pg b.nb D t)):=ao;have b4:(upd (upd Y t (.lst (S.ts.map V.int))) b.o (.ins ak b.dx (cM "turns" (.ref t) (wF b.pg b.nb D b.tn)))) t=some (.lst (S.ts.map V.int)):=by rw[aF a3,ao]
  have QG:tK [[c,0]] l Y (aQ l t [c,3]) (upd (upd Y t (.lst (S.ts.map V.int))) b.o (.ins ak b.dx (cM "turns" (.ref t) (wF b.pg b.nb D b.tn)))):=(tK.claim st ht).trans (tK.set (by rw[aR a3.symm,a1];simp) (st _ _ M) XZ)
  have a4:rF (aQ l t [c,3]) (upd (upd Y t (.lst (S.ts.map V.int))) b.o (.ins ak b.dx (cM "turns" (.ref t) (wF b.pg b.nb D b.tn)))):=(a0.claim st ⟨_,ao⟩).dom λy e=>by
   by_cases z:y=b.o
   .rw[z,ao] at e;cases e
   .rw[aF z] at e;exact e
  have b5:Same H (upd (upd Y t (.lst (S.ts.map V.int))) b.o (.ins ak b.dx (cM "turns" (.ref t) (wF b.pg b.nb D b.tn)))):=λx u e=>by rw[aF (aB e fo)];exact st _ _ (S9 _ _ e)
  have QC:aQ l t [c,3] b.o=[c,0]:=by rw[aR a3.symm];exact a1
  have Qz:aQ l t [c,3] t=[c,3]:=bC;have a7:∀x u,H x=some u->aQ l t [c,3] x=τ x:=λx u e=>by rw[aR (aB (S9 _ _ e) ht)];exact(Dg x u (S1 _ _ e)).trans (a2 x u e)
  have c5:tK [[c,0]] G H1 l H8:=⟨λx u e _=>⟨L _ _ e,Dg x u e⟩,L.tups⟩;have Q8:=q9.trans QG;generalize (upd (upd Y t (.lst (S.ts.map V.int))) b.o (.ins ak b.dx (cM "turns" (.ref t) (wF b.pg b.nb D b.tn))))=c6 at Rp b4 QG a4 b5 Q8 ⊢;generalize aQ l t [c,3]=Ig at QG a4 QC Qz a7 Q8;have Q1:=c5.trans Q8;have hL:=Q1.keep _ _ m.L (by rw[m.tL];simp);have b2:=Q1.keep _ _ m.nb (by rw[m.tb];simp);have Xy:=Q8.keep _ _ c4 (by rw[a9];simp);refine⟨_,Z,k Ig ⟨b.o,b.dx,b.pg,b.L,b.nb,D,t,b.rs,J⟩ c6 ⟨a4,i0,Rp,Q1.tup _ _ m.pg,hL.1,b2.1,Xy.1,b4,QC,b2.2.trans m.tb,Xy.2.trans a9,Qz,hL.2.trans m.tL,?_,?_,by rw[b0,w.len],λX A s O q=>(c3 X A s O q).mvT Q8 MZ MZ MZ MZ,w.ok,w.sl,w.nl,w.hn⟩ a7 b5⟩
  .have:=m.rl
   unfold Du at this;simpa using this
  .intro X r s O q
   have e1:(Du S.m S.ns (S.hs.map bJ.rws)).hs[X]?=some (lead (new s.rws)):=by show ((S.hs.map bJ.rws).map λr=>lead (new r))[X]?=_;rw[aap,aap,q];rfl
   have:=m.rs X r _ O e1;rw[show (lead (new s.rws)).rws=s.rws from vG _ _] at this;exact iz this Q1 MZ
def Uv(s:bJ):V:=if s.st = "waits" then .int s.pos else .non
inductive Gd(CH:Addr)(K:zzy)(vs:List V)(H:Hp)(Q:VK)(dY:XK):Prop|m:∀(A:qj)(s:bJ),vs=[.ref A.h]->pU CH H A s->(∀(t:Addr)(H':Hp),Dat (nw H H') (.ref t) (xG s)->Same H H'->Q (.ref t) H')->Gd CH K vs H Q dY
theorem Zf(F:fU K "picture" "Hand.picture" lE f fd)(a:fG K aq)(x:lZ mg):bN P w K mg base ig 1 f fd ["self"] (Gd aq K):=by
 refine F.ok pW (λC H Q E h=>?_) (λI A l s H C Q E J h=>?_)
 .obtain⟨A,s,rfl,_⟩:=h
  rfl
 .obtain⟨B,s,rfl,c,k⟩:=h
  refine⟨_,(aA (bH (i:=1) pW.nd rfl (Or.inl rfl) (lM (bD dZ (bf (K:=K) rfl (pv 0) rfl) bO (bh _)) (bf (K:=K) rfl (pv 0) rfl) j7))
   (aJ (aZ (dI (aj (bf (K:=K) rfl (pv 0) rfl) (aj (pv 1) (aj (dh (cA (K:=K) rfl) oZR x.gP fu (aj (bf (K:=K) rfl (pv 0) rfl) au)) (aj (dh (cA (K:=K) rfl) oZR x.gP fu (aj (bf (K:=K) rfl (pv 0) rfl) au)) au)))))))),?_⟩
  refine sG (λn H1=>n=[some (.ref B.h),some (Uv s)]/\H1=H) (λL d D=>?_) ?_
  .refine⟨_,Z,B.h,aq,B.hx,_,_,Z,c.h,a.cls,a.jJ,Z,Z,_,Z,?_⟩
   refine cV (λq=>?_) (λq=>?_)
   .have m:s.st=Str.ofString "waits" :=V.str.inj (aaQ q)
    refine⟨_,Z,B.h,aq,B.hx,_,_,Z,c.h,a.cls,a.vA,Z,d _ _ ⟨?_,Z⟩⟩;unfold Uv;rw[adq m];rfl
   .have m:¬s.st=Str.ofString "waits" :=λz=>q (aaO (by rw[z]))
    refine d _ _ ⟨?_,Z⟩;unfold Uv;rw[adp m];rfl
  rintro n H1 ⟨rfl,rfl⟩;refine⟨_,Z,B.h,aq,B.hx,_,_,Z,c.h,a.cls,a.jJ,Z,_,Z,_,Z,B.h,aq,B.hx,_,_,Z,c.h,a.cls,a.iJ,Z,B.b,_,Z,.inl (bF.of c.b),λb u=>?_⟩;have e:=aH (o:=HO.lst (s.bs.map V.int)) u;have v:=c.same e;refine⟨_,Z,B.h,aq,B.hx,_,_,Z,v.h,a.cls,a.kY,Z,B.sy,_,Z,.inl (bF.of v.y),λy p=>?_⟩;have g:=aH (o:=HO.lst (s.sy.map V.int)) p;refine⟨sZ4,λt r=>?_⟩;have j:=aH (o:=HO.tup [V.str s.st,Uv s,V.ref b,V.ref y]) r;refine k t _ ?_ ((e.trans g).trans j);have G:H1 y=none:=e.free p;have ft:H1 t=none:=e.free (g.free r);simp only[xG,Dat];refine⟨t,_,Z,tW ft ao,?_⟩;simp only[aV,Dat,and_true,true_and];refine⟨?_,bZ (tW u (j _ _ (g _ _ ao))),bZ (tW G (j _ _ ao))⟩;unfold Uv;split<;>simp only[Dat]
def wkD(S:dD):PyData:=Qn S (yO S)
inductive Ob(CW CH:Addr)(K:zzy)(vs:List V)(H:Hp)(Q:VK)(dY:XK):Prop|m:∀(i:Nat)(τ:Tg)(W:rE)(S:dD),vs=[.ref W.o]->j9 CW CH i τ H W S->(∀(t:Addr)(H':Hp),Dat H' (.ref t) (wkD S)->Same H H'->Q (.ref t) H')->Ob CW CH K vs H Q dY
def j9.prog{W:rE}(w:j9 CW CH i τ H W S):Dat H (.ref W.pg) (Oo S):=by
 have go:∀(d:List Addr)(c:List bJ),d.length=c.length->(∀(k:Nat)(r:Addr)(s:bJ),d[k]?=some r->c[k]?=some s->fM H r S.m s.rws)->aV H (d.map V.ref) (c.map λs=>vm s.rws):=by
  intro d
  induction d with
  | nil=>
    intro c l _;cases c with
    | nil=>simp only[List.map_nil,aV]
    | cons a b=>cases l
  | cons r d m=>
    intro c l h;cases c with
    | nil=>cases l
    | cons s c=>
      simp only[List.map_cons,aV];obtain⟨p,o,n,_⟩:=h 0 r s rfl rfl;exact⟨oM o n,m c (by simpa using l) λk j g f e=>h (k+1) j g f e⟩
 simp only[Oo,Dat];refine⟨W.pg,_,Z,w.pg,?_⟩;simp only[aV,Dat,and_true,true_and];exact⟨W.L,_,Z,w.L,go W.rs S.hs w.rl λk r s f e=>(w.rs k r s f e).2⟩
def j9.Ib{W:rE}(w:j9 CW CH i τ H W S):∀s∈S.hs,∀r∈s.rws,Jc S.m r:=λs hs=>by obtain⟨k,b⟩:=List.getElem?_of_mem hs;obtain⟨A,_,a⟩:=w.hand b;obtain⟨c,_,_,h,_⟩:=a.r;exact h
theorem ab0(F:fU K "picture" "Works.picture" jZ f fd)(b:cD K ak)(aL:fG K aq)(CK:MethAt P w K mg base 1 aq "picture" ["self"] (Gd aq K))(L:MethAt P w K mg base 1 ak "cells" ["self"] (uX ak aq K))(Y:MethAt P w K mg base 1 ak "counts" ["self"] (nY ak aq K))(Bt:lZ mg):bN P w K mg base ig 2 f fd ["self"] (Ob ak aq K):=by
 refine F.ok n_ (λJ H Q E h=>?_) (λa0 A u s H J Q E v h=>?_)
 .obtain⟨i,q,W,S,rfl,_⟩:=h
  rfl
 .obtain⟨i,q,W,S,rfl,w,k⟩:=h
  refine⟨_,(aA (mL (i:=1) rfl n_.nd rfl (Or.inl rfl) (N:=["one"]) (own:=["one"]) (caps:=[]) (bA.of (by kernel_rfl)) (cQ (K:=K) rfl (bf (K:=K) rfl (pv 0) rfl)) (λ_ _ _ _=>(bI (i:=0) (show List.Nodup (["one"]:List Str) by decide +kernel) rfl (Or.inl rfl))) (λ_ _ _ _=>cO) (λ_ _ _ _=>(bU CK aL.cls (v.mono DZ) (pv 0))))
   (aJ (aZ (dI (aj (bf (K:=K) rfl (pv 0) rfl) (aj (bU L b.cls (v.mono DZ) (pv 0)) (aj (pv 1) (aj (bU Y b.cls (v.mono DZ) (pv 0)) au)))))))),?_⟩
  refine⟨_,Z,W.o,ak,W.dx,_,_,Z,w.o,b.cls,b.mR,Z,W.hl,Z,⟨_,bF.of w.hl⟩,λD X=>?_⟩;refine RZ (K:=K) (λj=>((S.hs[j]?).map xG).getD .none) X (bF.of w.hl) (by rw[aak,w.len];have:=w.hn;lia) (λj x H1 F g p R=>?_) (λH1 p d1=>?_)
  .rw[aap] at g
   obtain⟨A,B,rfl⟩:∃A,W.hd[j]?=some A/\x=.ref A.h:=by
    cases e:W.hd[j]? with
    | none=>rw[e] at g;cases g
    | some A=>rw[e] at g;exact⟨A,Z,(aaY g).symm⟩
   have T:j<S.hs.length:=by rw[←w.len];exact(aam.mp B).1
   have z:S.hs[j]?=some S.hs[j]:=by simp[T]
   have a:=(w.same p).hd j A _ B z;refine⟨_,Z,A.h,A.hx,_,Z,a.c.h,Z,A,_,Z,a.c,λt H2 d2 d=>?_⟩;refine R _ H2 d ?_;rw[z];exact d2
  have l:=w.same p;refine⟨_,Z,W.o,ak,W.dx,_,_,Z,l.o,b.cls,b.sU,Z,_,Z,W.o,W.dx,_,Z,l.o,Z,i,q,W,S,Z,l,λO H2 f2 e2 d=>?_⟩;have r:=l.same d;refine⟨_,Z,_,Z,W.o,W.dx,_,Z,r.o,Z,i,q,W,S,Z,r,λM H3 f3 e3 m=>?_⟩;have I:=r.same m;refine⟨sZ4,λt U=>?_⟩;have c:=aH (o:=HO.tup [V.ref W.pg,V.ref O,V.ref D,V.ref M]) U;have G:=I.same c;refine k t _ ?_ (((p.trans d).trans m).trans c);have C:=d1.same (((Oz _ _).trans (d.trans m)).trans c) _
  have eh:((List.range (W.hd.map λa=>V.ref a.h).length).map λj=>((S.hs[j]?).map xG).getD .none)=S.hs.map xG:=by
   rw[aak,w.len];refine List.ext_getElem? λn=>?_
   by_cases y:n<S.hs.length
   .simp[y]
   .simp[y]
  rw[eh] at C;unfold wkD Qn;simp only[Dat];refine⟨t,_,Z,ao,?_⟩;have d5:=G.prog;simp only[aV,and_true];refine⟨d5,bZ (c _ _ (m _ _ e2)),C,bZ (c _ _ e3)⟩
def V6(K:zzy)(C:Addr):W.kitOne K (.ref C) (.ref C)=some true:=by simp[W.kitOne]
def wkE(S T:dD):Bool:=PyData.eqv (wkD S) (wkD T)
inductive Oa(CW CH:Addr)(K:zzy)(vs:List V)(H:Hp)(Q:VK)(dY:XK):Prop|m:∀(i i':Nat)(τ τ':Tg)(W W':rE)(S S':dD),vs=[.ref W.o,.ref W'.o]->j9 CW CH i τ H W S->j9 CW CH i' τ' H W' S'->jW S->jW S'->(∀(H':Hp),Same H H'->Q (.bl (wkE S S')) H')->Oa CW CH K vs H Q dY
def abY(F:fU K "__eq__" "Works.__eq__" lC f fd)(l:cD K ak)(n:IsO K mg ak "Works")(r:MethAt P w K mg base 2 ak "picture" ["self"] (Ob ak aq K))(I:lZ mg):bN P w K mg base ig 3 f fd ["self","other"] (Oa ak aq K):=by
 refine F.ok yJ (λy H Q E h=>?_) (λG A e s H y Q E j h=>?_)
 .obtain⟨i,u,m,a,W,b,S,x,rfl,_⟩:=h
  rfl
 .obtain⟨i,u,m,a,W,b,S,x,rfl,w,d,g,B,k⟩:=h
  have z:=j.units;refine⟨_,(aJ (aZ (jA (aU (cT (K:=K) (cv:= .ref ak) (c:= .ref ak) rfl rfl) oZR I.bM bL (aj (pv 1) (aj (jH (v:= .ref ak) oZR n.bd rfl) au))) (iZ (cU (pJ (K:=K) rfl z) (bU r l.cls (j.mono DZ) (pv 0)) (bU r l.cls (j.mono DZ) (pv 1)) (bh _)))))),?_⟩;refine⟨_,Z,_,_,true,Z,n.ty d.o l.cls,V6 K _,true,Z,?_⟩;refine eO ?_;refine⟨_,Z,W.o,W.dx,_,Z,w.o,Z,i,m,W,S,Z,w,λt H1 D q=>?_⟩;have o:=d.same q;refine⟨_,Z,b.o,b.dx,_,Z,o.o,Z,u,a,b,x,Z,o,λJ H2 C p=>?_⟩;refine⟨_,_,D.same p _,C,Mr g w.Ib,Mr B d.Ib,?_⟩;rw[adp aaT];exact k H2 (q.trans p)
theorem RT.set{τ:Tg}{H:Hp}{r x:Addr}{o u:HO}(h:RT τ H r)(e:H x=some o)(t:τ x≠[]):RT τ (upd H x u) r:=by
 obtain⟨n,f⟩:=h.off x o e t;refine⟨h.R.set n f,λy v a ty=>?_,λy a=>?_⟩
 .by_cases z:y=x
  .subst z
   exact⟨n,f.set n⟩
  .rw[aF z] at a
   obtain⟨b,c⟩:=h.off y v a ty;exact⟨b,c.set n⟩
 .by_cases z:y=x
  .rw[z,ao] at a;cases a
  .rw[aF z] at a;exact h.un y a
inductive Ug(K:zzy)(vs:List V)(H:Hp)(Q:VK)(dY:XK):Prop|m:∀(r z:Addr)(sz bx:Int)(m n:Nat),vs=[.ref r,.ref z,.int n]->eF H r->H z=some (.lst [.int sz,.int m,.int bx])->z≠r->0<=sz->sz<=100->0<m->m<=20->0<bx->bx<=8->(∀(v:V)(x:Rw)(H':Hp),Dat H' v (ou x)->Jc m x->eF H' r->KR r H H'->Q v H')->Ug K vs H Q dY
theorem ajx:∀i:Int,i=0\/i=1->yP (Str.ofString "=<").cps.toList i=some (if i=0 then 61 else 60):=by intro i h;rcases h with rfl|rfl<;>decide +kernel
def Ww:(Str.ofString "=<").length<=sizeLine:=by rw[sizeLine_eq];decide
theorem abZ(F:fU K "_law_row" "_law_row" K6 f fd)(S:FnAt P w K mg base 1 "_law_draw" ["reel","many"] (kh K))(G:FnAt P w K mg base 3 "_law_worth" ["reel","boxes"] (FP K))(Bt:lZ mg):bN P w K mg base ig 4 f fd ["reel","sizes","at"] (Ug K):=by
 refine F.ok o_ (λvs H Q E h=>?_) (λa3 A U s H vs Q E q h=>?_)
 .obtain⟨r,z,sz,B,m,n,rfl,_⟩:=h
  rfl
 .obtain⟨r,z,sz,B,m,n,rfl,R,hz,g,z0,z1,m0,m1,C,I,k⟩:=h
  refine⟨_,(aA (bH (i:=3) o_.nd rfl (Or.inl rfl) (bK S (q.mono DZ) oZR (aj (pv 0) (aj aG au))))
   (aA (bH (i:=4) o_.nd rfl (Or.inl rfl) (bK S (q.mono DZ) oZR (aj (pv 0) (aj aG au))))
   (aA (bH (i:=5) o_.nd rfl (Or.inl rfl) (aP LC bO (bK S (q.mono DZ) oZR (aj (pv 0) (aj (aP (aO (K:=K) rfl) (pv 1) aG (λ_ _=>rfl)) au))) (λ_ _=>rfl)))
   (aA (bH (i:=6) o_.nd rfl (Or.inl rfl) (bK S (q.mono DZ) oZR (aj (pv 0) (aj (aP (aO (K:=K) rfl) (pv 1) aG (λ_ _=>rfl)) au))))
   (aA (bH (i:=7) o_.nd rfl (Or.inl rfl) (bK S (q.mono DZ) oZR (aj (pv 0) (aj (bR i_ (aP (aO (K:=K) rfl) (pv 1) aG (λ_ _=>rfl)) aG) au))))
   (aA (bY (bD tV (pv 3) aG (bh _)) (aJ (aZ (dI (aj bO (aj (pv 5) (aj (pv 6) au)))))) bG)
   (aA (bY (bD tV (pv 3) aG (bh _)) (aJ (aZ (dI (aj bO (aj (pv 6) (aj (bK G (q.mono DZ) oZR (aj (pv 0) (aj (aP (aO (K:=K) rfl) (pv 1) aG (λ_ _=>rfl)) au))) au)))))) bG)
   (aA (bY (bD tV (pv 3) aG (bh _)) (aJ (aZ (dI (aj bO (aj (pv 5) (aj (pv 6) (aj (bK G (q.mono DZ) oZR (aj (pv 0) (aj (aP (aO (K:=K) rfl) (pv 1) aG (λ_ _=>rfl)) au))) au))))))) bG)
   (aA (bY (bD tV (pv 3) aG (bh _)) (aJ (aZ (dI (aj bO (aj (pv 5) (aj (bK G (q.mono DZ) oZR (aj (pv 0) (aj (aP (aO (K:=K) rfl) (pv 1) aG (λ_ _=>rfl)) au))) au)))))) bG)
   (aA (bY (bD dZ (pv 3) aG (bh _)) (aJ (aZ (dI (aj bO (aj (bK G (q.mono DZ) oZR (aj (pv 0) (aj (aP (aO (K:=K) rfl) (pv 1) aG (λ_ _=>rfl)) au))) au))))) bG)
   (aA (bY (bD aaz (pv 4) aG (bh _)) (aJ (bH (i:=7) o_.nd rfl (Or.inl rfl) (aU (Sg rfl) oZR Bt.afu ac0 (aj (pv 7) (aj (bR i_ (pv 2) aG) au))))) bG)
   (aA (bY (bD dZ (pv 3) aG (bh _)) (aJ (aZ (dI (aj bO (aj (pv 7) au))))) bG)
   (aJ (aZ (dI (aj bO (aj (aP LC bO (bR pI (pv 3) aG) (λ_ _=>rfl)) (aj (bK G (q.mono DZ) oZR (aj (pv 0) (aj (aP (aO (K:=K) rfl) (pv 1) aG (λ_ _=>rfl)) au))) (aj (bK G (q.mono DZ) oZR (aj (pv 0) (aj (aP (aO (K:=K) rfl) (pv 1) aG (λ_ _=>rfl)) au))) (aj (pv 7) au)))))))))))))))))))),?_⟩
  refine⟨_,Z,r,13,Z,R,DZ,DZ,λu H1 a1 a0 R1 k1=>?_⟩;refine⟨_,Z,r,3,Z,R1,DZ,DZ,λah H2 _ _ R2 k2=>?_⟩;have N:=k2.1 _ _ (k1.1 _ _ hz g) g;refine⟨_,Z,_,Z,_,_,_,_,Z,Z,bF.of N,Z,r,B,Z,R2,C,LZ,λi H3 i0 i1 R3 k3=>?_⟩;refine⟨_,_,_,Z,Z,Qg,Qa i0 LZ,?_⟩;have M:=k3.1 _ _ N g;refine⟨_,Z,_,Z,_,_,_,_,Z,Z,bF.of M,Z,r,m,Z,R3,LZ,LZ,λc H4 c0 c1 R4 k4=>?_⟩;obtain⟨c,rfl⟩:=adh c0;have L:=k4.1 _ _ M g;refine⟨_,Z,_,Z,_,_,_,_,Z,Z,bF.of L,Z,_,_,Z,Z,r,_,Z,R4,LZ,LZ,λto H5 t0 t1 y k5=>?_⟩;obtain⟨to,rfl⟩:=adh t0;have j:=k5.1 _ _ L g;have D:KR r H H5:=(((k1.trans k2).trans k3).trans k4).trans k5;have W:i.toNat<8:=by lia
  have cm:c<m:=by lia
  refine⟨_,Z,_,_,Z,Z,_,Z,?_⟩;refine cV (λ_=>?_) (λ_=>?_)
  .refine⟨_,Z,_,Z,sZ3,λp l=>?_⟩
   have a:=aH (o:=HO.tup [V.str (Str.ofString "load"),V.str (vX i.toNat),V.int c]) l;exact k _ (.load i.toNat c) _ (WW ao) ⟨W,cm⟩ (y.keep a) (D.trans (KR.same y a))
  refine⟨_,Z,_,_,Z,Z,_,Z,?_⟩;refine cV (λ_=>?_) (λ_=>?_)
  .refine⟨_,Z,_,Z,_,Z,_,_,_,_,Z,Z,bF.of j,Z,r,B,Z,y,C,I,λv e T d x b t=>?_⟩
   refine⟨sZ3,λp l=>?_⟩;have a:=aH (o:=HO.tup [V.str (Str.ofString "store"),V.int c,v]) l;exact k _ (.store c e) _ (RN ao (d.same a _)) ⟨cm,x⟩ (b.keep a) ((D.trans t).trans (KR.same b a))
  refine⟨_,Z,_,_,Z,Z,_,Z,?_⟩;refine cV (λ_=>?_) (λ_=>?_)
  .refine⟨_,Z,_,Z,_,Z,_,Z,_,_,_,_,Z,Z,bF.of j,Z,r,B,Z,y,C,I,λv e T d x b t=>?_⟩
   refine⟨sZ4,λp l=>?_⟩;have a:=aH (o:=HO.tup [V.str (Str.ofString "swap"),V.str (vX i.toNat),V.int c,v]) l;exact k _ (.swap i.toNat c e) _ (WT ao (d.same a _)) ⟨W,cm,x⟩ (b.keep a) ((D.trans t).trans (KR.same b a))
  refine⟨_,Z,_,_,Z,Z,_,Z,?_⟩;refine cV (λ_=>?_) (λq8=>?_)
  .refine⟨_,Z,_,Z,_,Z,_,_,_,_,Z,Z,bF.of j,Z,r,B,Z,y,C,I,λv e T d x b t=>?_⟩
   refine⟨sZ3,λp l=>?_⟩;have a:=aH (o:=HO.tup [V.str (Str.ofString "let"),V.str (vX i.toNat),v]) l;exact k _ (.yL i.toNat e) _ (Z0 ao (d.same a _)) ⟨W,x⟩ (b.keep a) ((D.trans t).trans (KR.same b a))
  refine⟨_,Z,Z,_,Z,?_⟩;refine cV (λ_=>?_) (λq9=>?_)
  .refine⟨_,Z,_,Z,_,_,_,_,Z,Z,bF.of j,Z,r,B,Z,y,C,I,λv e T d x b t=>?_⟩
   refine⟨sZ2,λp l=>?_⟩;have a:=aH (o:=HO.tup [V.str (Str.ofString "say"),v]) l;exact k _ (.say e) _ (ZX ao (d.same a _)) x (b.keep a) ((D.trans t).trans (KR.same b a))
  have a2:10<=u:=by
   have h8:¬u<9:=by simpa using q8
   have h9:¬u=9:=λe=>q9 (aaO (by rw[e]));lia
  unfold Ir;dsimp only;refine sG (λσ H'=>∃to:Nat,σ=[some (.ref r),some (.ref z),some (.int n),some (.int u),some (.int ah),some (.str (vX i.toNat)),some (.int c),some (.int to)]/\H'=H5) (λD' O _=>?_) ?_
  .refine⟨_,Z,_,_,Z,Z,_,Z,?_⟩
   refine cV (λ_=>?_) (λ_=>O _ _ ⟨to,Z,Z⟩);refine⟨_,Z,_,Z,_,_,Z,Z,_,_,Z,?_⟩;refine O _ _ ⟨if n+1>to then n+1 else to,?_,Z⟩
   have:(if (n:Int)+1>(to:Int) then (n:Int)+1 else (to:Int))=((if n+1>to then n+1 else to:Nat):Int):=by
    by_cases h:n+1>to
    .rw[adq h,adq LZ];lia
    .rw[adp h,adp LZ]
   rw[this];rfl
  rintro σ H' ⟨to,rfl,rfl⟩;refine⟨_,Z,Z,_,Z,?_⟩;refine cV (λ_=>?_) (λQG=>?_)
  .refine⟨_,Z,sZ2,λp l=>?_⟩
   have a:=aH (o:=HO.tup [V.str (Str.ofString "go"),V.int to]) l;exact k _ (.go to) _ (acV ao) trivial (y.keep a) (D.trans (KR.same y a))
  have J:u-11=0\/u-11=1:=by have:¬u=10:=λe=>QG (aaO (by rw[e]));lia
  refine⟨_,Z,_,_,Z,Z,_,_,_,Z,Z,Ww,ajx _ J,?_⟩;refine⟨_,Z,_,Z,_,_,_,_,Z,Z,bF.of j,Z,r,B,Z,y,C,I,λv e T d x b t=>?_⟩;have X:=t.1 _ _ j g;refine⟨_,Z,_,Z,_,_,_,_,Z,Z,bF.of X,Z,r,B,Z,b,C,I,λv' e' H7 d' Y R7 k7=>?_⟩;refine⟨_,Z,sZ5,λp l=>?_⟩;have a:=aH (o:=HO.tup [V.str (Str.ofString "unless"),V.str ⟨#[if u-11=0 then 61 else 60]⟩,v,v',V.int to]) l;have d7:=(d.keep (k7.tups b) _ (xM e)).same a _;refine k _ (.Dd (decide (u-11=0)) e e' to) _ (ZS ?_ d7 (d'.same a _)) ⟨x,Y⟩ (R7.keep a) (((D.trans t).trans k7).trans (KR.same R7 a));rw[ao];rcases J with h|h
  .rw[h];rfl
  .rw[h];rfl
structure Pg(τ:Tg)(H:Hp)(p L:Addr)(rs:List Addr)(rws:List (List Rw))(m:Nat):Prop where
 ep:H p=some (.tup [.int m,.ref L])
 eL:H L=some (.lst (rs.map V.ref))
 tL:τ L=[0]
 len:rs.length=rws.length
 row:∀(k:Nat)(r:Addr)(x:List Rw),rs[k]?=some r->rws[k]?=some x->τ r=[0]/\fM H r m x
def Pg.mv(g:Pg τ H p L rs rws m)(q:Mv i τ H τ' H'):Pg τ' H' p L rs rws m:=by have e:=q.keep _ _ g.eL (.inl g.tL);exact⟨q.tup _ _ g.ep,e.1,e.2.trans g.tL,g.len,λk r x b a=>Oh (g.row k r x b a) q⟩
inductive KN(K:zzy)(vs:List V)(H:Hp)(Q:VK)(dY:XK):Prop|m:∀(r:Addr)(τ:Tg),vs=[.ref r]->RT τ H r->(∀(p L:Addr)(rs:List Addr)(rws:List (List Rw))(m:Nat)(τ':Tg)(H':Hp),Pg τ' H' p L rs rws m->0<rws.length->rws.length<=8->0<m->m<=20->(∀x∈rws,x.length<=60)->RT τ' H' r->(∀x u,H x=some u->τ' x=τ x)->Kp r H H'->Q (.ref p) H')->KN K vs H Q dY
theorem Za(F:fU K "_law_program" "_law_program" uh f fd)(bT:FnAt P w K mg base 1 "_law_draw" ["reel","many"] (kh K))(e3:FnAt P w K mg base 4 "_law_row" ["reel","sizes","at"] (Ug K))(Bt:lZ mg):bN P w K mg base ig 5 f fd ["reel"] (KN K):=by
 refine F.ok gO (λvs H Q E h=>?_) (λe7 A c8 s H vs Q E hr h=>?_)
 .obtain⟨r,τ,rfl,_⟩:=h
  rfl
 .obtain⟨r,τ,rfl,T,k⟩:=h
  refine⟨_,(aA (bH (i:=1) gO.nd rfl (Or.inl rfl) (bK bT (hr.mono DZ) oZR (aj (pv 0) (aj aG au))))
   (aA (bH (i:=2) gO.nd rfl (Or.inr rfl) (bR i_ aG (bK bT (hr.mono DZ) oZR (aj (pv 0) (aj (aP (aO (K:=K) rfl) (cP (aj aG (aj aG (aj aG au)))) (bK bT (hr.mono DZ) oZR (aj (pv 0) (aj aG au))) (λ_ _=>rfl)) au)))))
   (aA (bH (i:=3) gO.nd rfl (Or.inr rfl) (aP (aO (K:=K) rfl) (cP (aj aG (aj aG au))) (bK bT (hr.mono DZ) oZR (aj (pv 0) (aj aG au))) (λ_ _=>rfl)))
   (aA (bH (i:=4) gO.nd rfl (Or.inl rfl) (cP au))
   (aA (iI PassesOwn.never rfl (cN oZR Bt.dH (aj (bR i_ aG (bK bT (hr.mono DZ) oZR (aj (pv 0) (aj (aP (aO (K:=K) rfl) (cP (aj aG (aj aG au))) (dh xV oZR Bt.Kc Cp (aj (cU aaz (pv 1) aG (bh _)) au)) (λ_ _=>rfl)) au)))) au)) (bI (i:=5) gO.nd rfl (Or.inl rfl))
   (aA (bH (i:=6) gO.nd rfl (Or.inr rfl) (bK bT (hr.mono DZ) oZR (aj (pv 0) (aj (aP (aO (K:=K) rfl) (cP (aj aG (aj aG au))) (dh xV oZR Bt.Kc Cp (aj (cU dZ (pv 1) aG (bh _)) au)) (λ_ _=>rfl)) au))))
   (aJ (cL (fW (K:=K) rfl (pv 4) (aj (dB rfl (N:=["at","reel","size","many","boxes"]) (own:=["at"]) (caps:=[0,6,2,3]) (bA.of (by kernel_rfl)) (cN oZR Bt.dH (aj (pv 6) au)) (λ_ _ _ _=>(bI (i:=0) (show List.Nodup (["at","reel","size","many","boxes"]:List Str) by decide +kernel) rfl (Or.inl rfl))) (λ_ _ _ _=>cO) (λ_ _ _ _=>(bK e3 (hr.mono DZ) oZR (aj (pv 1) (aj (cP (aj (pv 2) (aj (pv 3) (aj (pv 4) au)))) (aj (pv 0) au)))))) au))))))
   (aJ (aZ (dI (aj (pv 2) (aj (pv 4) au)))))))))),?_⟩
  refine⟨_,Z,r,8,Z,T.R,DZ,DZ,λgreat H1 g0 g1 R1 k1=>?_⟩;have T1:=T.draw k1 R1;refine⟨_,Z,sZ3,λl hl=>?_⟩;have sl:=aH (o:=HO.lst [V.int 2,V.int 3,V.int 20]) hl;have d1:l≠r:=R1.ne hl;refine⟨_,Z,r,3,Z,R1.keep sl,DZ,DZ,λz H2 z0 z1 R2 k2=>?_⟩;have T2:=(T1.same sl).draw k2 R2
  obtain⟨U,eb,b0,b1⟩:∃U:Int,yP [V.int 2,V.int 3,V.int 20] z=some (.int U)/\0<U/\U<=20:=by
   have:z=0\/z=1\/z=2:=by lia
   rcases this with rfl|rfl|rfl
   .exact⟨2,Z,DZ,DZ⟩
   .exact⟨3,Z,DZ,DZ⟩
   .exact⟨20,Z,DZ,DZ⟩
  refine⟨_,_,_,_,Z,Z,bF.of (k2.1 _ _ ao d1),eb,r,U,Z,R2,b0,LZ,λi H3 i0 i1 R3 k3=>⟨_,_,Z,Z,?_⟩⟩;have T3:=T2.draw k3 R3;obtain⟨m,em,m0,b6⟩:∃m:Nat,(1:Int)+i=m/\0<m/\m<=20:=⟨(1+i).toNat,LZ,LZ,LZ⟩;dsimp only[bV];rw[em];refine⟨sZ2,λl4 c2=>?_⟩;have a1:=aH (o:=HO.lst [V.int 2,V.int 8]) c2;have e2:l4≠r:=R3.ne c2;refine⟨_,Z,r,2,Z,R3.keep a1,DZ,DZ,λz4 H5 e5 e4 R5 k5=>?_⟩;have T5:=(T3.same a1).draw k5 R5
  obtain⟨bx,d5,e0,d7⟩:∃U:Int,yP [V.int 2,V.int 8] z4=some (.int U)/\0<U/\U<=8:=by
   have:z4=0\/z4=1:=by lia
   rcases this with rfl|rfl
   .exact⟨2,Z,DZ,DZ⟩
   .exact⟨8,Z,DZ,DZ⟩
  refine⟨_,_,_,_,Z,Z,bF.of (k5.1 _ _ ao e2),d5,?_⟩;have b9:Kp r H H5:=((((k1.1.trans (Kp.of_same sl)).trans k2.1).trans k3.1).trans (Kp.of_same a1)).trans k5.1;refine⟨sZ0,λa ha=>?_⟩;have sa:=aH (o:=HO.lst []) ha;have b4:a≠r:=R5.ne ha;have c3:H a=none:=zu b9 b4 ha;have T6:=T5.claim (t:=[0]) sa ha ⟨_,ao⟩;have b2:∀x u,H x=some u->aQ τ a [0] x=τ x:=λx u e=>aR (aB e c3);have b3:aQ τ a [0] a=[0]:=bC;have b8:=b9.trans (Kp.of_same sa);have c5:(upd H5 a (.lst [])) a=some (.lst []):=ao;generalize (upd H5 a (.lst []))=H6 at sa T6 b8 c5 ⊢;generalize aQ τ a [0]=c7 at T6 b2 b3;refine⟨_,Z,sZ2,λl7 d4=>?_⟩;have O:=aH (o:=HO.lst [V.int 3,V.int 7]) d4;refine⟨_,Z,_,_,Z,Z,.inr ⟨_,Z,?_⟩⟩
  obtain⟨nn,en,n0,n1⟩:∃nn:Int,yP [V.int 3,V.int 7] (if decide (5<great) then 1 else 0)=some (.int nn)/\0<nn/\nn<=7:=by
   cases decide (5<great)
   .exact⟨3,Z,DZ,DZ⟩
   .exact⟨7,Z,DZ,DZ⟩
  refine⟨_,_,_,_,Z,Z,bF.of ao,en,r,nn,Z,(T6.same O).R,n0,LZ,λcnt H7 c0 c1 R7 k7=>⟨_,_,Z,Z,_,Z,LZ,LZ,?_⟩⟩;have T7:=(T6.same O).draw k7 R7;have d6:=k7.1 _ _ (O _ _ c5) b4
  refine gZ (lo:=0) (λj σ W=>∃(v w':Option V) (b:Tg) (I:List Addr) (c:List (List Rw)),σ=[some (.ref r),some (.int great),some (.int m),some (.int bx),some (.ref a),v,w']/\RT b W r/\W a=some (.lst (I.map V.ref))/\b a=[0]/\I.length=c.length/\c.length=j/\(∀x∈c,x.length<=60)/\(∀(k:Nat)(q:Addr)(x:List Rw),I[k]?=some q->c[k]?=some x->q≠a/\b q=[0]/\fM W q m x)/\(∀x u,H x=some u->b x=τ x)/\Kp r H W)
   ⟨none,none,c7,[],[],Z,T7,d6,b3,Z,Z,MZ,λk q x e=>by simp at e,b2,(b8.trans (Kp.of_same O)).trans k7.1⟩ ?_ ?_
  .rintro j σ W hj ⟨v,w',b,I,c,rfl,Tc,a7,L,lr,lj,a2,S,DY,a4⟩
   refine⟨_,Z,sZ2,λl8 d3=>?_⟩;have g:=aH (o:=HO.lst [V.int 9,V.int 61]) d3;refine⟨_,Z,Z,.inr ⟨_,Z,?_⟩⟩
   obtain⟨nz,ez,d0,e6⟩:∃nn:Int,yP [V.int 9,V.int 61] (if decide (V.int great=V.int 7) then 1 else 0)=some (.int nn)/\0<nn/\nn<=61:=by
    cases decide (V.int great=V.int 7)
    .exact⟨9,Z,DZ,DZ⟩
    .exact⟨61,Z,DZ,DZ⟩
   refine⟨_,_,_,_,Z,Z,bF.of ao,ez,r,nz,Z,(Tc.same g).R,d0,LZ,λsz H8 s0 s1 R8 k8=>?_⟩;have T8:=(Tc.same g).draw k8 R8;have Pk:∀x o,W x=some o->b x≠[]->H8 x=some o:=λx o e t=>(Tc.same g).keep k8 (g _ _ e) t;have t8:∀x xs,W x=some (.tup xs)->H8 x=some (.tup xs):=λx xs e=>k8.tups (Tc.same g).R _ _ (g _ _ e);have Xz:=Pk _ _ a7 (by rw[L];simp);have b7:=(a4.trans (Kp.of_same g)).trans k8.1;refine⟨_,Z,.inl ⟨Z,_,bF.of Xz⟩,_,Z,sz,Z,LZ,LZ,λD hD=>?_⟩;have sD:=aH (o:=HO.lst []) hD;have b5:D≠r:=R8.ne hD;have c4:H D=none:=zu b7 b5 hD;have R:D≠a:=(aB Xz hD).symm;have TD:=T8.claim (t:=[0]) sD hD ⟨_,ao⟩
   have a9:∀x u,W x=some u->aQ b D [0] x=b x:=λx u e=>by
    by_cases z:x=D
    .subst z
     by_cases t:b x=[]
     .by_cases zr:x=r
      .exact adt zr b5
      .have:=k8.1 _ _ (g _ _ e) zr
       rw[hD] at this;cases this
     .have:=Pk _ _ e t
      rw[hD] at this;cases this
    .exact aR z
   have Xq:aQ b D [0] D=[0]:=bC;have M:aQ b D [0] a=[0]:=by rw[aR R.symm];exact L
   have a8:∀x u,H x=some u->aQ b D [0] x=τ x:=λx u e=>by rw[aR (aB e c4)];exact DY x u e
   have ZD:∀(k:Nat)(q:Addr)(x:List Rw),I[k]?=some q->c[k]?=some x->q≠a/\q≠D/\aQ b D [0] q=[0]/\fM H8 q m x:=λk q x d G=>by obtain⟨n1,t1,c6⟩:=S k q x d G;have rr:=c6;obtain⟨ts,Y,_⟩:=rr;have d2:=Pk _ _ Y (by rw[t1];simp);exact⟨n1,aB d2 hD,by rw[a9 _ _ Y];exact t1,c6.keep (λo e=>Pk _ _ e (by rw[t1];simp)) t8⟩
   generalize aQ b D [0]=a0 at TD a9 Xq M a8 ZD;refine iQ (lo:=0) (n:=sz.toNat) (λi σ Hd=>∃(v:Option V) (refs:List V) (B:List Rw),σ=[v,some (.ref r),some (.int sz),some (.int m),some (.int bx)]/\RT a0 Hd r/\Hd D=some (.lst refs)/\aV Hd refs (B.map ou)/\(∀x∈B,Jc m x)/\B.length=i/\Hd a=some (.lst (I.map V.ref))/\(∀(k:Nat)(q:Addr)(x:List Rw),I[k]?=some q->c[k]?=some x->fM Hd q m x)/\Kp r H Hd) ?_ ?_ ?_
   .exact⟨none,[],[],Z,TD,ao,by simp[aV],MZ,Z,sD _ _ Xz,λk q x d G=>((ZD k q x d G).2.2.2).same sD,b7.trans (Kp.of_same sD)⟩
   .rintro i σ Hd hi ⟨v,refs,B,rfl,Td,Xy,dd,od,ld,J,a5,a3⟩
    dsimp only[bV,uO];rw[adq rfl];refine⟨_,Z,_,Z,_,Z,_,Z,sZ3,λz hz=>?_⟩;have C:=aH (o:=HO.lst [V.int sz,V.int m,V.int bx]) hz;have c9:z≠r:=Td.R.ne hz;refine⟨_,Z,r,z,sz,bx,m,i,by rw[Int.zero_add];rfl,Td.R.keep C,ao,c9,s0,LZ,m0,b6,e0,d7,λy x H9 dy xo R9 k9=>?_⟩;have T9:=(Td.same C).draw k9 R9;have V8:∀x o,Hd x=some o->a0 x≠[]->H9 x=some o:=λx o e t=>(Td.same C).keep k9 (C _ _ e) t;have t9:∀x xs,Hd x=some (.tup xs)->H9 x=some (.tup xs):=λx xs e=>k9.tups (Td.same C).R _ _ (C _ _ e);have a6:=V8 _ _ Xy (by rw[Xq];simp);have tu:∀a X,H9 a=some (.tup X)->(upd H9 D (.lst (refs++[y]))) a=some (.tup X):=λa X e=>by rw[aF (dG e a6 ZN)];exact e
    have ll:refs.length=B.length:=by rw[dd.length,aak]
    refine⟨refs,a6,(by rw[ll,sizeLine_eq];lia),_,refs++[y],B++[x],Z,T9.set a6 (by rw[Xq];simp),ao,?_,?_,by simp[ld],by rw[aF R.symm];exact V8 _ _ J (by rw[M];simp),?_,?_⟩
    .rw[abd]
     exact iU ((dd.kp t9).kp tu) (dy.keep tu _ (G5 x))
    .intro q Y
     rcases abA.mp Y with Y|Y
     .exact od q Y
     .rw[ab7.mp Y];exact xo
    .intro kk q x' d G
     obtain⟨_,n2,t2,_⟩:=ZD kk q x' d G;exact(a5 kk q x' d G).keep (λo e=>by rw[aF n2];exact V8 _ _ e (by rw[t2];simp)) (λy X e=>tu _ _ (t9 _ _ e))
    .intro x' o e n'
     rw[aF (aB e c4)];exact k9.1 _ _ (C _ _ (a3 _ _ e n')) n'
   .rintro σ Hd ⟨v,refs,B,rfl,Td,Xy,dd,od,ld,J,a5,a3⟩
    refine⟨_,_,_,Z,Z,J,(by rw[aak,lr,lj,sizeLine_eq];lia),?_⟩;have tu:∀x X,Hd x=some (.tup X)->(upd Hd a (.lst (I.map V.ref++[V.ref D]))) x=some (.tup X):=λx X e=>by rw[aF (dG e J ZN)];exact e
    refine⟨_,_,a0,I++[D],c++[B],Z,Td.set J (by rw[M];simp),by rw[ao,abd];rfl,M,by simp[lr],by simp[lj],?_,?_,a8,λx o e n'=>by rw[aF (aB e c3)];exact a3 _ _ e n'⟩
    .intro x hx
     rcases abA.mp hx with hx|hx
     .exact a2 x hx
     .rw[ab7.mp hx];lia
    .intro kk q x d G
     rcases q_ G with G|⟨ek,rfl⟩
     .have kl:=(aam.mp G).1
      rw[aa6 (by rw[lr];exact kl)] at d;obtain⟨n1,_,t1,_⟩:=ZD kk q x d G;exact⟨n1,t1,(a5 kk q x d G).keep (λo e=>by rw[aF n1];exact e) tu⟩
     .have e1:q=D:=by
       rcases q_ d with d|⟨_,d⟩
       .have:=(aam.mp d).1;rw[lr] at this;lia
       .exact d
      subst e1;exact⟨R,Xq,refs,by rw[aF R];exact Xy,dd.kp tu,od,LZ⟩
  .rintro σ W ⟨v,w',b,I,c,rfl,Tc,a7,L,lr,lj,a2,S,DY,a4⟩
   refine⟨_,Z,_,Z,sZ2,λp hp=>?_⟩;have sp:=aH (o:=HO.tup [V.int m,V.ref a]) hp;exact k p a I c m b _ ⟨ao,sp _ _ a7,L,lr,λk q x d G=>⟨(S k q x d G).2.1,((S k q x d G).2.2).same sp⟩⟩ LZ LZ m0 b6 a2 (Tc.same sp) DY (a4.trans (Kp.of_same sp))
def NumV(τ:Tg)(H:Hp)(v:V)(ns:List Int)(m:Nat):Prop:=qR m ns/\((v=.non/\ns=List.replicate m 0) \/ ∃l,v=.ref l/\τ l=[0]/\H l=some (.lst (ns.map V.int)))
def ab8(m:Nat):qR m (List.replicate m 0):=⟨by rw[List.length_replicate],λx a=>by rw[(List.mem_replicate.mp a).2];exact⟨DZ,DZ⟩⟩
def rep0(m:Nat):(List.replicate m [V.int 0]).flatten=(List.replicate m (0:Int)).map V.int:=by
 rw[List.map_replicate]
 induction m with
 | zero=>rfl
 | succ n a=>rw[List.replicate_succ,List.flatten_cons,a,List.replicate_succ];rfl
inductive KQ(K:zzy)(vs:List V)(H:Hp)(Q:VK)(dY:XK):Prop|m:∀(r:Addr)(τ:Tg)(m:Nat),vs=[.ref r,.int m]->RT τ H r->m<=20->(∀(v:V)(ns:List Int)(τ':Tg)(H':Hp),NumV τ' H' v ns m->RT τ' H' r->(∀x u,H x=some u->τ' x=τ x)->Kp r H H'->Q v H')->KQ K vs H Q dY
theorem Zb(F:fU K "_law_numbers" "_law_numbers" um f fd)(bT:FnAt P w K mg base 1 "_law_draw" ["reel","many"] (kh K))(Bt:lZ mg):bN P w K mg base ig 2 f fd ["reel","many"] (KQ K):=by
 refine F.ok I_ (λvs H Q E h=>?_) (λa1 A R s H vs Q E hr h=>?_)
 .obtain⟨r,c,m,rfl,_⟩:=h
  rfl
 .obtain⟨r,c,m,rfl,T,a0,k⟩:=h
  refine⟨_,(aA (bY (bD dZ (bK bT (hr.mono DZ) oZR (aj (pv 0) (aj aG au))) aG (bh _)) (aJ (aZ j7)) bG)
   (aJ (aZ (dB rfl (N:=["k","reel"]) (own:=["k"]) (caps:=[0]) (bA.of (by kernel_rfl)) (cN oZR Bt.dH (aj (pv 1) au)) (λ_ _ _ _=>(bI (i:=0) (show List.Nodup (["k","reel"]:List Str) by decide +kernel) rfl (Or.inl rfl))) (λ_ _ _ _=>cO) (λ_ _ _ _=>(bK bT (hr.mono DZ) oZR (aj (pv 1) (aj (aP (aO (K:=K) rfl) (cP (aj aG (aj aG au))) (bK bT (hr.mono DZ) oZR (aj (pv 1) (aj aG au))) (λ_ _=>rfl)) au)))))))),?_⟩
  refine⟨_,Z,r,2,Z,T.R,DZ,DZ,λz H1 z0 z1 R1 L=>⟨Z,_,Z,?_⟩⟩;have T1:=T.draw L R1;refine cV (λ_=>?_) (λ_=>?_)
  .exact k .non _ c H1 ⟨ab8 m,.inl ⟨Z,Z⟩⟩ T1 (λx u e=>rfl) L.1
  refine⟨_,Z,_,Z,LZ,LZ,λD M=>?_⟩;rw[abf];have sD:=aH (o:=HO.lst []) M;have W:D≠r:=R1.ne M;have C:H D=none:=zu L.1 W M;have TD:=T1.claim (t:=[0]) sD M ⟨_,ao⟩;have I:aQ c D [0] D=[0]:=bC;have j:∀x u,H x=some u->aQ c D [0] x=c x:=λx u e=>aR (aB e C);generalize aQ c D [0]=g at TD I j;refine iQ (lo:=0) (n:=m) (λi O Hd=>∃(v:Option V) (a:List Int),O=[v,some (.ref r)]/\RT g Hd r/\Hd D=some (.lst (a.map V.int))/\(∀x∈a,0<=x/\x<1000)/\a.length=i/\Kp r H Hd) ?_ ?_ ?_
  .exact⟨none,[],Z,TD,ao,MZ,Z,L.1.trans (Kp.of_same sD)⟩
  .rintro i O Hd hi ⟨v,a,rfl,d,Xy,S,ld,b⟩
   dsimp only[bV,uO];rw[adq rfl];refine⟨_,Z,sZ2,λl hl=>?_⟩;have p:=aH (o:=HO.lst [V.int 4,V.int 1000]) hl;have U:l≠r:=d.R.ne hl;refine⟨_,Z,r,2,Z,(d.same p).R,DZ,DZ,λq H2 q0 q1 R2 J=>?_⟩;have T2:=(d.same p).draw J R2
   obtain⟨G,eb,b0,b1⟩:∃G:Int,yP [V.int 4,V.int 1000] q=some (.int G)/\0<G/\G<=1000:=by
    have:q=0\/q=1:=by lia
    rcases this with rfl|rfl
    .exact⟨4,Z,DZ,DZ⟩
    .exact⟨1000,Z,DZ,DZ⟩
   refine⟨_,_,_,_,Z,Z,bF.of (J.1 _ _ ao U),eb,r,G,Z,R2,b0,LZ,λy H3 y0 y1 R3 Y=>?_⟩;have T3:=T2.draw Y R3;have ZJ:=T2.keep Y ((d.same p).keep J (p _ _ Xy) (by rw[I];simp)) (by rw[I];simp);refine⟨_,ZJ,(by rw[aak,sizeLine_eq];lia),_,a++[y],Z,T3.set ZJ (by rw[I];simp),by rw[ao,abd];rfl,?_,by simp[ld],λx o e X=>by rw[aF (aB e C)];exact Y.1 _ _ (J.1 _ _ (p _ _ (b _ _ e X)) X) X⟩;intro x B;rcases abA.mp B with B|B
   .exact S x B
   .rw[ab7.mp B];exact⟨y0,LZ⟩
  .rintro O Hd ⟨v,a,rfl,d,Xy,S,ld,b⟩
   exact k _ a g Hd ⟨⟨by rw[ld],S⟩,.inr ⟨D,Z,I,Xy⟩⟩ d j b
def jN(hs:List bJ)(k:Nat):Bool:=match hs[k]? with
 | some s=>decide (s.st = "waits")
 | none=>false
def qu(hs:List bJ):List Nat:=(List.range hs.length).filter (jN hs)
def Wr{α:Type}(p:Nat->Bool)(f:Nat->α)(n:Nat):(List.range n).filterMap (λi=>if p i then some (f i) else none)=((List.range n).filter p).map f:=by
 induction n with
 | zero=>rfl
 | succ n a=>
   rw[d8,a,List.range_succ,ado,abd];congr 1;cases h:p n<;>simp[h]
def DQ{z:Nat}(h:(qu hs)[z]?=some k):∃s,hs[k]?=some s/\s.st = "waits" :=by
 have m:=aaN h;have:=(acJ.mp m).2;unfold jN at this;cases e:hs[k]? with
 | none=>rw[e] at this;cases this
 | some s=>rw[e] at this;exact⟨s,Z,aaQ this⟩
def Ue(h:bF K H a xs)(k:∀o,H a=some o->H' a=some o):bF K H' a xs:=by
 rcases h with (h|⟨o,h⟩)|h
 .exact .inl (.inl (k _ h))
 .exact .inl (.inr ⟨o,k _ h⟩)
 .exact .inr h
structure Dr(τ:Tg)(r:Addr)(H H':Hp):Prop where
 k:∀x o,H x=some o->τ x≠[]->H' x=some o
 t:∀x xs,H x=some (.tup xs)->H' x=some (.tup xs)
 p:Kp r H H'
def Dr.draw{r:Addr}(T:RT τ H r)(k:KR r H H'):Dr τ r H H':=⟨λx o e n=>T.keep k e n,λx a e=>k.tups T.R _ _ e,k.1⟩
def Dr.mv{r:Addr}(d:Dr τ r H H'):Mv i τ H τ H':=⟨λx o e t=>⟨d.k x o e (by
 rcases t with t|t
 .rw[t];simp
 .intro z;rw[z] at t;cases t),Z⟩,d.t⟩
abbrev lY:=Int×Str×Int
def tD(x:lY):PyData:= .tuple [.int x.1,.str x.2.1,.int x.2.2]
def L_(x:lY):CV (tD x)=true:=Z
def ZW{t:Addr}{x:lY}(h:H t=some (.tup [.int x.1,.str x.2.1,.int x.2.2])):Dat H (.ref t) (tD x):=by simp only[tD,Dat];exact⟨t,_,Z,h,by simp only[aV,Dat,and_self]⟩
def yC(H:Hp)(a:Addr)(ws:List lY):Prop:=∃vs,H a=some (.lst vs)/\aV H vs (ws.map tD)
def yC.same{ws:List lY}(h:yC H a ws)(k:Same H H'):yC H' a ws:=by obtain⟨b,e,d⟩:=h;exact⟨b,k _ _ e,aV.keep k.tups _ (cI _ L_ ws) d⟩
def SJ(x y:lY):Bool:= !decide (V.int x.1=V.int y.1)&&(decide (V.int x.2.2=V.int y.2.2)&&(!decide (V.str x.2.1=V.str "load") || !decide (V.str y.2.1=V.str "load")))
inductive wM(K:zzy)(vs:List V)(H:Hp)(Q:VK)(dY:XK):Prop|m:∀(a b:Addr)(x y:lY),vs=[.ref a,.ref b]->H a=some (.tup [.int x.1,.str x.2.1,.int x.2.2])->H b=some (.tup [.int y.1,.str y.2.1,.int y.2.2])->Q (.bl (SJ x y)) H->wM K vs H Q dY
def Zc(F:fU K "_law_meet" "_law_meet" Gm f fd):bN P w K mg base ig 1 f fd ["one","other"] (wM K):=by
 refine F.ok Uo (λl H Q E h=>?_) (λm A c s H l Q E n h=>?_)
 .obtain⟨a,b,x,y,rfl,_⟩:=h
  rfl
 .obtain⟨a,b,x,y,rfl,e,d,k⟩:=h
  refine⟨_,(aJ (aZ (jA (cU oG (aP (aX (K:=K) rfl) (pv 0) aG (λ_ _=>rfl)) (aP (aX (K:=K) rfl) (pv 1) aG (λ_ _=>rfl)) (bh _)) (jA (cU dZ (aP (aX (K:=K) rfl) (pv 0) aG (λ_ _=>rfl)) (aP (aX (K:=K) rfl) (pv 1) aG (λ_ _=>rfl)) (bh _)) (iZ (Vc (cU oG (aP (aX (K:=K) rfl) (pv 0) aG (λ_ _=>rfl)) bO (bh _)) (iZ (cU oG (aP (aX (K:=K) rfl) (pv 1) aG (λ_ _=>rfl)) bO (bh _))))))))),?_⟩;show Yd _ _ [some (.ref a),some (.ref b)] H;unfold SJ at k;refine⟨_,Z,_,_,_,_,Z,Z,cC.of e,Z,_,Z,_,_,_,_,Z,Z,cC.of d,Z,Z,_,Z,?_⟩
  by_cases j:V.int x.1=V.int y.1
  .rw[aaO j] at k ⊢
   exact k
  rw[aaP j] at k ⊢;refine⟨_,Z,_,_,_,_,Z,Z,cC.of e,Z,_,Z,_,_,_,_,Z,Z,cC.of d,Z,Z,_,Z,?_⟩
  by_cases i:V.int x.2.2=V.int y.2.2
  .rw[aaO i] at k ⊢
   refine⟨_,Z,_,_,_,_,Z,Z,cC.of e,Z,Z,_,Z,?_⟩
   by_cases g:V.str x.2.1=V.str "load"
   .rw[aaO g] at k ⊢
    exact⟨_,Z,_,_,_,_,Z,Z,cC.of d,Z,Z,k⟩
   .rw[aaP g] at k ⊢
    exact k
  .rw[aaP i] at k ⊢
   exact k
def O8{x y:lY}:SJ x y=true↔x.1≠y.1/\x.2.2=y.2.2/\(x.2.1 ≠ "load" \/ y.2.1 ≠ "load"):=by unfold SJ;simp only[abt,Bool.or_eq_true,Bool.not_eq_true',decide_eq_false_iff_not,decide_eq_true_eq,V.int.injEq,V.str.injEq,ne_eq]
def zT{ws:List lY}{x:lY}(h:yC H a ws)(e:ws[j]?=some x):∃vs b,H a=some (.lst vs)/\vs.length=ws.length/\vs[j]?=some (.ref b)/\H b=some (.tup [.int x.1,.str x.2.1,.int x.2.2]):=by
 obtain⟨vs,l,d⟩:=h;obtain⟨v,ev,g⟩:=d.getD (i:=j) (d:=tD x) (by rw[aap,e];rfl);have ln:=d.length;simp only[tD,Dat] at g;obtain⟨b,f,rfl,k,c⟩:=g
 have:f=[.int x.1,.str x.2.1,.int x.2.2]:=by
  match f,c with
  | [p,q,r],c=>
    simp only[aV,Dat] at c;obtain⟨rfl,rfl,rfl,_⟩:=c;rfl
 subst this;exact⟨vs,b,l,by simpa using ln,ev,k⟩
def rB(ws:List lY)(i j:Nat):Prop:=i<j /\ ∃x y,ws[i]?=some x/\ws[j]?=some y/\(x.1=y.1\/SJ x y=true)
structure Fp(H:Hp)(r:Addr)(ws:List lY)(T:Nat->Prop):Prop where
 ex:∃bs:List Bool,H r=some (.lst (bs.map V.bl))/\bs.length=ws.length /\ ∀x,bs[x]?=some true↔T x
def Fp.same{r:Addr}{ws:List lY}{T:Nat->Prop}(h:Fp H r ws T)(k:Same H H'):Fp H' r ws T:=let ⟨bs,e,q⟩:=h.ex;⟨⟨bs,k _ _ e,q⟩⟩
def Fp.iff{r:Addr}{ws:List lY}{T:Nat->Prop}(h:Fp H r ws T)(k:∀x,T x↔T' x):Fp H r ws T':=let ⟨bs,e,l,q⟩:=h.ex;⟨⟨bs,e,l,λx=>(q x).trans (k x)⟩⟩
def Fp.get{r:Addr}{ws:List lY}{T:Nat->Prop}(h:Fp H r ws T)(l:m<ws.length):∃(vs:List V) (b:Bool),H r=some (.lst vs)/\vs.length=ws.length/\vs[m]?=some (.bl b)/\(b=true↔T m):=by obtain⟨bs,e,c,q⟩:=h.ex;have a:bs[m]?=some (bs[m]'LZ):=aal _;refine⟨_,_,e,by simpa using c,by rw[aap,a];rfl,?_⟩;rw[←q m,a,Option.some.injEq]
def Fp.put{r:Addr}{ws:List lY}{T:Nat->Prop}{c:Bool}(h:Fp H r ws T)(e:H r=some (.lst vs))(l:m<ws.length)(f:c=true↔T' m)(k:∀x,x≠m->(T x↔T' x)):Fp (upd H r (.lst (vs.set m (.bl c)))) r ws T':=by
 obtain⟨bs,b,d,q⟩:=h.ex;rw[e] at b;cases b;refine⟨⟨bs.set m c,by rw[ao,List.map_set],by simpa using d,λx=>?_⟩⟩
 by_cases a:x=m
 .subst a
  rw[List.getElem?_set_self LZ,Option.some.injEq];exact f
 .rw[List.getElem?_set_ne (Ne.symm a)]
  exact(q x).trans (k x a)
structure Dv(H:Hp)(t:Addr)(ws:List lY)(n:Nat):Prop where
 ex:∃rs:List Addr,H t=some (.lst (rs.map V.ref))/\rs.length=n/\(∀r∈rs,r≠t) /\ ∀j r,rs[j]?=some r->Fp H r ws λx=>Ah (rB ws) x j
theorem Dv.same{H H':Hp}{t:Addr}{ws:List lY}{n:Nat}(h:Dv H t ws n)(k:Same H H'):Dv H' t ws n:=let ⟨a,e,l,d,q⟩:=h.ex;⟨⟨a,k _ _ e,l,d,λj r h=>(q j r h).same k⟩⟩
theorem Dv.get{H:Hp}{t:Addr}{ws:List lY}{n i m:Nat}(h:Dv H t ws n)(hi:i<n)(f:m<ws.length):∃(vs us:List V) (r:Addr) (b:Bool),H t=some (.lst vs)/\vs[i]?=some (.ref r)/\H r=some (.lst us)/\us[m]?=some (.bl b)/\(b=true↔Ah (rB ws) m i):=by obtain⟨a,e,l,d,q⟩:=h.ex;have c:a[i]?=some (a[i]'LZ):=aal _;obtain⟨us,b,k,_,j,g⟩:=(q i _ c).get f;exact⟨_,us,_,b,e,by rw[aap,c];rfl,k,j,g⟩
def RB(ws:List lY)(j a x:Nat):Prop:=Ah (rB ws) x j/\(a<=x \/ ∃y,a<=y/\Ah (rB ws) x y/\Ah (rB ws) y j)
def Ef{ws:List lY}:∀i j,rB ws i j->i<j:=λ_ _ h=>h.1
def ac_{ws:List lY}{x:Nat}:¬RB ws j j x:=by
 rintro⟨a,b|⟨y,b,_,c⟩⟩
 .have:=a.lt Ef;lia
 .have:=c.lt Ef;lia
def Z9{ws:List lY}{x:Nat}:RB ws j 0 x↔Ah (rB ws) x j:=⟨λh=>h.1,λh=>⟨h,.inl (Nat.zero_le _)⟩⟩
def ac'{ws:List lY}(l:i<j):(RB ws j (i+1) i\/rB ws i j)↔Ah (rB ws) i j:=by
 rw[Uu Ef l];constructor
 .rintro(⟨_,b|⟨y,b,c,d⟩⟩|h)
  .lia
  .exact .inr ⟨y,c.lt Ef,d.lt Ef,c,d⟩
  .exact .inl h
 .rintro(h|⟨y,p,q,c,d⟩)
  .exact .inr h
  .exact .inl ⟨c.trans d,.inr ⟨y,p,c,d⟩⟩
def afz{ws:List lY}(n:¬Ah (rB ws) i j)(x:Nat):RB ws j (i+1) x↔RB ws j i x:=by
 constructor
 .rintro⟨a,b|⟨y,b,c⟩⟩
  .exact⟨a,.inl LZ⟩
  .exact⟨a,.inr ⟨y,LZ,c⟩⟩
 .rintro⟨a,b|⟨y,b,c,d⟩⟩
  .rcases Nat.lt_or_ge i x with h|h
   .exact⟨a,.inl h⟩
   .have:x=i:=by lia
    subst this;exact adt a n
  .rcases Nat.lt_or_ge i y with h|h
   .exact⟨a,.inr ⟨y,h,c,d⟩⟩
   .have:y=i:=by lia
    subst this;exact adt d n
def ac9{ws:List lY}(n:Ah (rB ws) i j)(x:Nat):(RB ws j (i+1) x\/x=i\/(x<i/\Ah (rB ws) x i))↔RB ws j i x:=by
 constructor
 .rintro(⟨a,b|⟨y,b,c⟩⟩|rfl|⟨l,a⟩)
  .exact⟨a,.inl LZ⟩
  .exact⟨a,.inr ⟨y,LZ,c⟩⟩
  .exact⟨n,.inl (aav _)⟩
  .exact⟨a.trans n,.inr ⟨i,aav _,a,n⟩⟩
 .rintro⟨a,b|⟨y,b,c,d⟩⟩
  .rcases Nat.lt_or_ge i x with h|h
   .exact .inl ⟨a,.inl h⟩
   .exact .inr (.inl LZ)
  .rcases Nat.lt_or_ge i y with h|h
   .exact .inl ⟨a,.inr ⟨y,h,c,d⟩⟩
   .have:y=i:=by lia
    subst this;exact .inr (.inr ⟨c.lt Ef,c⟩)
def oh{r:Addr}{o:HO}(s:Same H H')(h:H r=none):Same H (upd H' r o):=λb u e=>by rw[aF (aB e h)];exact s _ _ e
inductive Uj(K:zzy)(vs:List V)(H:Hp)(Q:VK)(dY:XK):Prop|m:∀(w:Addr)(ws:List lY),vs=[.ref w]->yC H w ws->ws.length<=50->(∀t H',Same H H'->Dv H' t ws ws.length->Q (.ref t) H')->Uj K vs H Q dY
def Xb{w r t:Addr}{ws:List lY}{Q:Bool->Hp->Prop}(hw:yC H w ws)(G:Fp H r ws (RB ws j (i+1)))(l:i<j)(F:j<ws.length)(k:∀c,(c=true↔Ah (rB ws) i j)->Q c H):
 tOr (tB (CT (qO K) (d_ 3) (d_ 4))) (tOr (TY (CT rEq (CT (Uz K) (CT (qO K) (d_ 0) (d_ 4)) (tC (.int 0))) (CT (Uz K) (CT (qO K) (d_ 0) (d_ 2)) (tC (.int 0))))) (tB (Iw (wM K) [] E0 (jq (CT (qO K) (d_ 0) (d_ 4)) (jq (CT (qO K) (d_ 0) (d_ 2)) wJ))))) [some (.ref w),some (.ref t),some (.int j),some (.ref r),some (.int i),x5] H Q:=by
 obtain⟨C,b,e,P,M,I⟩:=G.get (m:=i) LZ;obtain⟨x,ex⟩:∃x,ws[i]?=some x:=⟨_,aal LZ⟩;obtain⟨y,n⟩:∃y,ws[j]?=some y:=⟨_,aal F⟩;obtain⟨g,p,f,lv,A,s⟩:=zT hw ex;obtain⟨B,q,d,E,eq,o⟩:=zT hw n;rw[f] at d;cases d
 have J:rB ws i j↔(x.1=y.1\/SJ x y=true):=⟨λ⟨_,O,N,v,u,L⟩=>by rw[ex] at v;rw[n] at u;cases v;cases u;exact L,λh=>⟨l,x,y,ex,n,h⟩⟩
 have all:=ac' (ws:=ws) l;rw[←I,J] at all;refine⟨_,Z,_,Z,r,C,i,.bl b,Z,Z,bF.of e,cj M,b,Z,?_⟩;cases b with
 | true=>exact eO (k true (by rw[←all];simp))
 | false=>
   refine cW ?_;refine⟨_,Z,_,Z,w,g,i,_,Z,Z,bF.of f,cj A,_,_,_,_,Z,Z,cC.of s,Z,_,Z,_,Z,w,g,j,_,Z,Z,bF.of f,cj eq,_,_,_,_,Z,Z,cC.of o,Z,Z,_,Z,?_⟩
   by_cases a:V.int x.1=V.int y.1
   .rw[aaO a]
    exact eO (k true (by rw[←all];injection a with a;simp[a]))
   .rw[aaP a]
    refine cW ?_;have D:¬x.1=y.1:=λz=>a (by rw[z]);exact⟨_,Z,_,Z,w,g,i,_,Z,Z,bF.of f,cj A,_,Z,_,Z,w,g,j,_,Z,Z,bF.of f,cj eq,p,q,x,y,Z,s,o,_,Z,k _ (by rw[←all];simp[D])⟩
def ac4{H1:Hp}{w r t:Addr}{ws:List lY}{D:Ends}(u:H1 r=none)(n:Same H1 H)(s:Dv H1 t ws j)(o:Fp H r ws λx=>RB ws j (i+1) x\/x=i\/(x<m/\Ah (rB ws) x i))(l:i<j)(G:j<ws.length)(lm:m<i)(k:∀H',Same H1 H'->Fp H' r ws (λx=>RB ws j (i+1) x\/x=i\/(x<m+1/\Ah (rB ws) x i))->D.nx [some (.ref w),some (.ref t),some (.int j),some (.ref r),some (.int i),some (.int m)] H'):
 Yg (ad7 (CT (qO K) (d_ 3) (d_ 5)) (CT (qO K) (CT (qO K) (d_ 1) (d_ 4)) (d_ 5))) (acL (d_ 3) (d_ 5) Ol) D [some (.ref w),some (.ref t),some (.int j),some (.ref r),some (.int i),some (.int m)] H:=by
 obtain⟨g,b,e,F,C,z⟩:=o.get (m:=m) LZ;obtain⟨q,a,v,p,A,ev,B,f,d⟩:=(s.same n).get l (m:=m) LZ
 have put:∀c:Bool,(c=true↔(b=true\/p=true))->acL (d_ 3) (d_ 5) Ol (.bl c) [some (.ref w),some (.ref t),some (.int j),some (.ref r),some (.int i),some (.int m)] H D.nx:=λc y=>by
  refine⟨_,Z,_,Z,r,g,m,m,Z,Z,e,by rw[zx LZ LZ];rfl,?_⟩;refine k _ (oh n u) (o.put e LZ ?_ λx E=>?_)
  .rw[y,z,d]
   constructor
   .rintro((h|h|h)|h)
    .exact .inl h
    .exact .inr (.inl h)
    .exact .inr (.inr ⟨LZ,h.2⟩)
    .exact .inr (.inr ⟨LZ,h⟩)
   .rintro(h|h|h)
    .exact .inl (.inl h)
    .exact .inl (.inr (.inl h))
    .exact .inr h.2
  .have:(x<m)↔(x<m+1):=by lia
   simp only[this]
 refine⟨_,Z,_,Z,r,g,m,.bl b,Z,Z,bF.of e,cj C,b,Z,?_⟩;cases b with
 | true=>exact eO (put true MZ)
 | false=>exact cW ⟨_,Z,_,Z,t,q,i,_,Z,Z,bF.of A,cj ev,_,Z,v,a,m,_,Z,Z,bF.of B,cj f,put p MZ⟩
theorem ab6(F:fU K "_law_ahead" "_law_ahead" A_ f fd)(HY:FnAt P w K mg base 1 "_law_meet" ["one","other"] (wM K))(I:lZ mg):bN P w K mg base ig 2 f fd ["web"] (Uj K):=by
 refine F.ok kW (λvs H Q E h=>?_) (λa7 A a3 s H vs Q E hr h=>?_)
 .obtain⟨w,g,rfl,_⟩:=h
  rfl
 .obtain⟨w,g,rfl,hw,hl,k⟩:=h
  refine⟨_,(aA (bH (i:=1) kW.nd rfl (Or.inl rfl) (cP au))
   (aA (iI PassesOwn.never rfl (cN oZR I.dH (aj (aU (aW (K:=K) rfl) oZR I.dR cH (aj (pv 0) au)) au)) (bI (i:=2) kW.nd rfl (Or.inl rfl))
   (aA (bH (i:=3) kW.nd rfl (Or.inl rfl) (bR Gy (cP (aj j_ au)) (aU (aW (K:=K) rfl) oZR I.dR cH (aj (pv 0) au))))
   (aA (iI PassesOwn.never rfl (YK oZR I.MF oZR I.dH (aj (pv 2) au)) (bI (i:=4) kW.nd rfl (Or.inl rfl))
   (aJ (bY (PW.pt (mK (cX (aP (aO (K:=K) rfl) (pv 3) (pv 4) (λ_ _=>rfl))) (mK (bD dZ (aP (aX (K:=K) rfl) (aP (aO (K:=K) rfl) (pv 0) (pv 4) (λ_ _=>rfl)) aG (λ_ _=>rfl)) (aP (aX (K:=K) rfl) (aP (aO (K:=K) rfl) (pv 0) (pv 2) (λ_ _=>rfl)) aG (λ_ _=>rfl)) (bh _)) (lJ (cX (bK HY (hr.mono DZ) oZR (aj (aP (aO (K:=K) rfl) (pv 0) (pv 4) (λ_ _=>rfl)) (aj (aP (aO (K:=K) rfl) (pv 0) (pv 2) (λ_ _=>rfl)) au)))))))) (aA (pH j_ (qP (pv 3) (pv 4) set_list))
   (aJ (iI PassesOwn.never rfl (cN oZR I.dH (aj (pv 4) au)) (bI (i:=5) kW.nd rfl (Or.inl rfl))
   (aJ (pH (Vc (aP (aO (K:=K) rfl) (pv 3) (pv 5) (λ_ _=>rfl)) (iZ (aP (aO (K:=K) rfl) (aP (aO (K:=K) rfl) (pv 1) (pv 4) (λ_ _=>rfl)) (pv 5) (λ_ _=>rfl)))) (qP (pv 3) (pv 5) set_list)))))) bG)))
   (aJ (cL (fW (K:=K) rfl (pv 1) (aj (pv 3) au)))))))
   (aJ (aZ (pv 1))))),?_⟩
  show Ip _ _ _ [some (.ref w),none,none,none,none,none] H;refine⟨by show 0<=sizeLine;exact Nat.zero_le _,λt ht=>?_⟩;obtain⟨B,ew,dw⟩:=id hw;have lw:B.length=g.length:=by simpa using dw.length
  have s0:Same H (upd H t (.lst [])):=aH ht;refine⟨_,Z,w,B,Z,.inl (bF.of (s0 _ _ ew)),(B.length:Int),Z,LZ,LZ,?_⟩;rw[lw,abf];refine gZ (λj l H1=>∃x2 Y y p:Option V,l=[some (.ref w),some (.ref t),x2,Y,y,p]/\Same H H1/\Dv H1 t g j) ⟨_,_,_,_,Z,s0,⟨⟨[],ao,Z,(λ_ h=>nomatch h),λj r h=>by simp at h⟩⟩⟩ ?_ ?_
  .rintro j l H1 hj ⟨x2,Y,y,p,rfl,L,J⟩
   have e0:(0:Int)+(j:Int)=(j:Int):=Int.zero_add _;rw[e0];refine⟨sZ1,λO a4=>?_⟩;have s1:Same H1 (upd H1 O (.lst [.bl false])):=aH a4
   have sz:[V.bl false].length*B.length<=sizeLine:=by
    show 1*B.length<=sizeLine;have a5:50<=sizeLine:=by decide
    lia
   refine⟨_,Z,w,B,Z,.inl (bF.of (s1 _ _ (L _ _ ew))),O,(B.length:Int),[.bl false],Z,Z,ao,LZ,LZ,by rw[abf];exact sz,λr S=>?_⟩;rw[abf,lw]
   have W:H1 r=none:=Classical.byContradiction λz=>by obtain⟨o,eo⟩:=Option.ne_none_iff_exists'.mp z;rw[s1 _ _ eo] at S;cases S
   have s2:Same H1 (upd (upd H1 O (.lst [.bl false])) r (.lst (List.replicate g.length [V.bl false]).flatten)):=oh s1 W
   have M:Fp (upd (upd H1 O (.lst [.bl false])) r (.lst (List.replicate g.length [V.bl false]).flatten)) r g (RB g j j):=by refine⟨⟨List.replicate g.length false,by rw[ao,List.flatten_replicate_singleton,List.map_replicate],MZ,λx=>⟨λh=>?_,λh=>adt h ac_⟩⟩⟩;rw[List.getElem?_replicate] at h;split at h<;>cases h
   generalize upd (upd H1 O (.lst [.bl false])) r (.lst (List.replicate g.length [V.bl false]).flatten)=H2 at s2 M ⊢;refine⟨_,Z,(j:Int),Z,⟨LZ,LZ⟩,?_⟩;rw[abf];refine Mh (hi:=(j:Int)-1) (n:=j) (λi l G=>∃y p:Option V,l=[some (.ref w),some (.ref t),some (.int j),some (.ref r),y,p]/\Same H1 G/\Fp G r g (RB g j (j-i))) ⟨_,_,Z,s2,M⟩ ?_ ?_
   .rintro i l G hi ⟨y,p,rfl,D,d⟩
    have eh:(j:Int)-1-(i:Int)=((j-1-i:Nat):Int):=by lia
    rw[eh];obtain⟨h,eq⟩:∃h,h=j-1-i:=⟨_,Z⟩;rw[←eq];have e1:j-i=h+1:=by lia
    have e2:j-(i+1)=h:=by lia
    rw[e1] at d;refine Xb (hw.same (L.trans D)) d LZ hj λc hc=>?_;cases c with
    | false=>
      refine cW ⟨_,_,Z,D,?_⟩;rw[e2];exact d.iff (afz (λz=>by cases hc.mpr z))
    | true=>
      have a:=hc.mp rfl;obtain⟨us,b,e,lu,eb,hb⟩:=d.get (m:=h) LZ;refine eO ⟨_,Z,_,Z,r,us,h,h,Z,Z,e,by rw[zx LZ LZ];rfl,?_⟩;refine⟨_,Z,(h:Int),Z,LZ,LZ,?_⟩;rw[abf];refine gZ (λm l X=>∃p:Option V,l=[some (.ref w),some (.ref t),some (.int j),some (.ref r),some (.int h),p]/\Same H1 X/\Fp X r g λx=>RB g j (h+1) x\/x=h\/(x<m/\Ah (rB g) x h)) ⟨_,Z,oh D W,d.put e LZ MZ λx xm=>by simp[xm]⟩ ?_ ?_
      .rintro m l X hm ⟨p,rfl,s4,C⟩
       have e0:(0:Int)+(m:Int)=(m:Int):=Int.zero_add _;rw[e0];exact ac4 W s4 J C LZ hj hm λH' s5 a2=>⟨_,Z,s5,a2⟩
      .rintro l X ⟨p,rfl,s4,C⟩
       refine⟨_,_,Z,s4,?_⟩;rw[e2];exact C.iff (ac9 a)
   .rintro l G ⟨y,p,rfl,D,d⟩
    rw[Nat.sub_self] at d;have a1:=d.iff λx=>Z9;obtain⟨N,et,lr,nr,q⟩:=(J.same D).ex
    have t1:H1 t≠none:=λz=>by obtain⟨a6,U,_⟩:=J.ex;rw[z] at U;cases U
    have a0:j<sizeLine:=by
     have a5:50<=sizeLine:=by decide
     lia
    have R:r≠t:=λz=>t1 (by rw[←z];exact W);refine⟨_,Z,.inl ⟨Z,_,bF.of et⟩,_,Z,t,_,_,Z,Z,et,by rw[aak,lr];exact a0,?_⟩;refine⟨_,_,_,_,Z,λb u eb=>?_,⟨⟨N++[r],by rw[ao,abd];rfl,by simp[lr],λx v=>?_,λi x v=>?_⟩⟩⟩
    .have:b≠t:=aB eb ht
     rw[aF this];exact D _ _ (L _ _ eb)
    .rcases abA.mp v with h|h
     .exact nr _ h
     .have:x=r:=by simpa using h
      rw[this];exact R
    .have kp:∀{x:Addr}{T:Nat->Prop},x≠t->Fp G x g T->Fp (upd G t (.lst (N.map V.ref++[V.ref r]))) x g T:=λn h=>let ⟨bs,e,z⟩:=h.ex;⟨⟨bs,by rw[aF n];exact e,z⟩⟩
     rcases Nat.lt_or_ge i N.length with h|h
     .rw[aa6 h] at v
      exact kp (nr _ (aaN v)) (q i x v)
     .rw[aa5 h] at v
      have i0:i-N.length=0:=by
       rcases Nat.eq_zero_or_pos (i-N.length) with z|z
       .exact z
       .rw[List.getElem?_eq_none (by show 1<=_;lia)] at v
        cases v
      rw[i0] at v;cases v;have:i=j:=by lia
      subst this;exact kp R a1
  .rintro l H1 ⟨x2,Y,y,p,rfl,L,J⟩
   exact⟨_,Z,k _ _ L J⟩
inductive Oc(K:zzy)(vs:List V)(H:Hp)(Q:VK)(dY:XK):Prop|m:∀(t:Addr)(ws:List lY)(i j:Nat),vs=[.ref t,.int i,.int j]->Dv H t ws ws.length->i<j->j<ws.length->ws.length<=50->(∀b H',(b=true ↔ ∃x,i<x/\x<j/\Ah (rB ws) x j/\Ah (rB ws) i x)->Same H H'->Q (.bl b) H')->Oc K vs H Q dY
theorem ab5(F:fU K "_law_covered" "_law_covered" uo f fd)(Bt:lZ mg):bN P w K mg base ig 1 f fd ["ahead","i","j"] (Oc K):=by
 refine F.ok Ja (λB H Q E h=>?_) (λa3 A G s H B Q E hr h=>?_)
 .obtain⟨t,d,i,j,rfl,_⟩:=h
  rfl
 .obtain⟨t,d,i,j,rfl,X,l,lj,hl,k⟩:=h
  refine⟨_,(aJ (aZ (cU (Bq (K:=K) rfl) j_ (dB rfl (N:=["x","i","ahead","j"]) (own:=["x"]) (caps:=[1,0,2]) (bA.of (by kernel_rfl)) (Ei oZR Bt.dH (aj (bR i_ (pv 1) aG) (aj (pv 2) au))) (λ_ _ _ _=>(bI (i:=0) (show List.Nodup (["x","i","ahead","j"]:List Str) by decide +kernel) rfl (Or.inl rfl))) (λ_ _ _ _=>cO) (λ_ _ _ _=>(jA (aP (aO (K:=K) rfl) (aP (aO (K:=K) rfl) (pv 2) (pv 3) (λ_ _=>rfl)) (pv 0) (λ_ _=>rfl)) (iZ (aP (aO (K:=K) rfl) (aP (aO (K:=K) rfl) (pv 2) (pv 0) (λ_ _=>rfl)) (pv 1) (λ_ _=>rfl)))))) (by with_unfolding_all rfl)))),?_⟩;show Yd _ _ [some (.ref t),some (.int i),some (.int j)] H;refine⟨_,Z,_,_,Z,Z,_,Z,(i:Int)+1,(j:Int),Z,⟨LZ,LZ,LZ,LZ⟩,λD Y=>?_⟩;have en:((j:Int)-((i:Int)+1)).toNat=j-(i+1):=by lia
  rw[en];show iu _ _ _ _ _ _ (none::[some (.int i),some (.ref t),some (.int j)]) H;refine iQ (lo:=(i:Int)+1) (n:=j-(i+1)) (λn u H1=>(∃v,u=v::[some (.int i),some (.ref t),some (.int j)])/\Same H H1 /\ ∃bs:List Bool,H1 D=some (.lst (bs.map V.bl))/\bs.length=n /\ ∀m,bs[m]?=some true↔(m<n/\Ah (rB d) (i+1+m) j/\Ah (rB d) i (i+1+m))) ⟨⟨none,Z⟩,aH Y,[],ao,Z,λm=>⟨λz=>by simp at z,λz=>LZ⟩⟩ ?_ ?_
  .rintro n u H1 hn ⟨⟨v,rfl⟩,g,bs,e,o,p⟩
   have ex:(i:Int)+1+(n:Int)=((i+1+n:Nat):Int):=by lia
   rw[ex];obtain⟨B,us,r,b,e1,e2,e3,e4,e5⟩:=(X.same g).get (i:=j) (m:=i+1+n) lj LZ;obtain⟨y,C,r',T,S,R,O,M,L⟩:=(X.same g).get (i:=i+1+n) (m:=i) LZ LZ
   have go:∀c:Bool,(c=true↔(b=true/\T=true)) -> ∃a,H1 D=some (.lst a)/\a.length<sizeLine/\((∃v,(some (V.int ((i+1+n:Nat):Int))::[some (.int i),some (.ref t),some (.int j)]:St)=v::[some (.int i),some (.ref t),some (.int j)])/\Same H (upd H1 D (.lst (a++[.bl c]))) /\ ∃bs:List Bool,(upd H1 D (.lst (a++[.bl c]))) D=some (.lst (bs.map V.bl))/\bs.length=n+1 /\ ∀m,bs[m]?=some true↔(m<n+1/\Ah (rB d) (i+1+m) j/\Ah (rB d) i (i+1+m))):=λc J=>by
    have sz:n<sizeLine:=by
     have a0:50<=sizeLine:=by decide
     lia
    refine⟨_,e,by rw[aak,o];exact sz,⟨_,Z⟩,oh g Y,bs++[c],by rw[ao,abd];rfl,by simp[o],λm=>?_⟩;rcases Nat.lt_trichotomy m n with h|h|h
    .rw[aa6 LZ,p]
     have:(m<n)↔(m<n+1):=by lia
     rw[this]
    .subst h
     rw[aa5 LZ,o,Nat.sub_self];show some c=some true↔_;rw[Option.some.injEq,J,e5,L];exact⟨λz=>⟨LZ,z⟩,λz=>z.2⟩
    .rw[List.getElem?_eq_none (by rw[aa1,o];show n+1<=m;lia)]
     exact⟨(λz=>by cases z),λz=>LZ⟩
   refine⟨_,Z,_,Z,t,B,j,_,Z,Z,bF.of e1,cj e2,_,Z,r,us,(i+1+n:Nat),.bl b,Z,Z,bF.of e3,cj e4,b,Z,?_⟩;cases b with
   | false=>exact cW (go false MZ)
   | true=>exact eO ⟨_,Z,_,Z,t,y,(i+1+n:Nat),_,Z,Z,bF.of S,cj R,_,Z,r',C,i,.bl T,Z,Z,bF.of O,cj M,go T MZ⟩
  .rintro u H1 ⟨⟨v,rfl⟩,g,bs,e,o,p⟩
   refine⟨D,_,Z,.inl (bF.of e),Z,by simp[vP],?_⟩;refine k _ H1 ?_ g;show inV _ _=true↔_;unfold inV;rw[List.any_map,List.any_eq_true];constructor
   .rintro⟨c,J,q⟩
    have:c=true:=by simpa [Wx] using q
    subst this;obtain⟨m,I⟩:=List.getElem?_of_mem J;obtain⟨l1,W,U⟩:=(p m).mp I;exact⟨i+1+m,LZ,LZ,W,U⟩
   .rintro⟨x,l1,l2,W,U⟩
    have q:i+1+(x-(i+1))=x:=by lia
    have I:=(p (x-(i+1))).mpr ⟨LZ,by rw[q];exact W,by rw[q];exact U⟩;exact⟨true,aaN I,by simp[Wx]⟩
def YW(ws:List lY)(i j:Nat):Prop:=∃x y,ws[i]?=some x/\ws[j]?=some y/\x.1=y.1
def VR(ws:List lY)(i j:Nat):Prop:=∃x y,ws[i]?=some x/\ws[j]?=some y/\SJ x y=true
def aeu(ws:List lY):(λa b=>a<b/\(YW ws a b\/VR ws a b))=rB ws:=by
 funext a b;refine propext ⟨λ⟨l,h⟩=>⟨l,?_⟩,λ⟨l,x,y,d,c,h⟩=>⟨l,?_⟩⟩
 .rcases h with ⟨x,y,d,c,h⟩|⟨x,y,d,c,h⟩
  .exact⟨x,y,d,c,.inl h⟩
  .exact⟨x,y,d,c,.inr h⟩
 .rcases h with h|h
  .exact .inl ⟨x,y,d,c,h⟩
  .exact .inr ⟨x,y,d,c,h⟩
def tQ(ws:List lY)(few:Bool)(i j:Nat):Prop:=told (YW ws) (VR ws) (few=true) i j
def yN(ws:List lY):List Int:=ws.map (·.1)
def ctW(ws:List lY)(i:Nat):Int:=(((yN ws).take i).count (gI (yN ws) i):Int)
def pZ(ws:List lY)(i j:Nat):Nt:=(gI (yN ws) i,ctW ws i,gI (yN ws) j,ctW ws j)
def VH{w t:Addr}{ws:List lY}{r o:Option V}{Q:Bool->Hp->Prop}(hw:yC H w ws)(A:Dv H t ws ws.length)(C:ws.length<=50)(l:i<j)(g:j<ws.length)(k:∀c H',Same H H'->(c=true↔tQ ws few i j)->Q c H'):
 abu (tB (Iw (wM K) [] E0 (jq (CT (qO K) (d_ 0) (d_ 6)) (jq (CT (qO K) (d_ 0) (d_ 5)) wJ)))) (ad9 (abu (tB (d_ 1)) (tB (Iw (Oc K) [] E0 (jq (d_ 2) (jq (d_ 6) (jq (d_ 5) wJ))))))) [some (.ref w),some (.bl few),some (.ref t),r,o,some (.int j),some (.int i)] H Q:=by
 obtain⟨x,ex⟩:∃x,ws[i]?=some x:=⟨_,aal LZ⟩;obtain⟨y,d⟩:∃y,ws[j]?=some y:=⟨_,aal g⟩;obtain⟨f,p,e,lv,G,z⟩:=zT hw ex;obtain⟨u,q,a,B,eq,v⟩:=zT hw d;rw[e] at a;cases a
 have E:VR ws i j↔SJ x y=true:=⟨λ⟨J,I,n,m,F⟩=>by rw[ex] at n;rw[d] at m;cases n;cases m;exact F,λh=>⟨x,y,ex,d,h⟩⟩
 have all:tQ ws few i j↔(SJ x y=true /\ ¬(few=true /\ ∃x,i<x/\x<j/\Ah (rB ws) x j/\Ah (rB ws) i x)):=by unfold tQ told;rw[aeu,E];exact⟨λh=>h.2,λh=>⟨l,h⟩⟩
 refine⟨_,Z,_,Z,w,f,i,_,Z,Z,bF.of e,cj G,_,Z,_,Z,w,f,j,_,Z,Z,bF.of e,cj eq,p,q,x,y,Z,z,v,_,Z,?_⟩;cases hm:SJ x y with
 | false=>exact cW (k _ _ (Same.refl _) (by rw[all,hm];simp))
 | true=>
   refine eO ⟨_,Z,few,Z,?_⟩;cases few with
   | false=>exact cW (k _ _ (Same.refl _) (by rw[all,hm];simp))
   | true=>
     refine eO ⟨_,Z,_,Z,_,Z,t,ws,i,j,Z,A,l,g,C,λb H' D s=>⟨_,Z,k _ _ s ?_⟩⟩;rw[all,hm,←D];cases b<;>simp
def yD(ws:List lY)(few:Bool)(j i:Nat)(seq:List Nt):Prop:=seq.length<=50*j+i /\ ∀x,x∈seq ↔ ∃b a,(a<j\/(a=j/\b<i))/\tQ ws few b a/\x=pZ ws b a
def Um{ws:List lY}{seq:List Nt}(h:yD ws few j i seq)(n:¬tQ ws few i j):yD ws few j (i+1) seq:=by
 refine⟨by have:=h.1;lia,λx=>(h.2 x).trans ⟨λ⟨d,c,a,b⟩=>⟨d,c,LZ,b⟩,λ⟨d,c,a,b⟩=>?_⟩⟩
 by_cases z:d=i/\c=j
 .rw[z.1,z.2] at b
  exact adt b.1 n
 .exact⟨d,c,LZ,b⟩
def Yp{ws:List lY}{seq:List Nt}(h:yD ws few j i seq)(n:tQ ws few i j):yD ws few j (i+1) (seq++[pZ ws i j]):=by
 refine⟨by have:=h.1;simp;lia,λx=>?_⟩;rw[abA,h.2 x,ab7];constructor
 .rintro(⟨d,c,a,b⟩|rfl)
  .exact⟨d,c,LZ,b⟩
  .exact⟨i,j,LZ,n,Z⟩
 .rintro⟨d,c,a,b⟩
  by_cases z:d=i/\c=j
  .rw[z.1,z.2] at b
   exact .inr b.2
  .exact .inl ⟨d,c,LZ,b⟩
def Yo{ws:List lY}{seq:List Nt}(h:yD ws few j j seq)(e:j<=50):yD ws few (j+1) 0 seq:=by refine⟨by have:=h.1;lia,λx=>(h.2 x).trans ⟨λ⟨d,c,a,b⟩=>⟨d,c,LZ,b⟩,λ⟨d,c,a,b⟩=>⟨d,c,?_,b⟩⟩⟩;have:=b.1.1;lia
theorem Zh{H0:Hp}{b:Addr}{ws:List lY}{x0 u t:Option V}{D:Ends}{seq:List Nt}(d:H b=some (.lst ((yN ws).map V.int)))(T:ws.length<=50)(l:i<j)(E:j<ws.length)(O:H0 f=none)(I:Same H0 H)(N:mW H f seq)(ls:seq.length<=4000)(k:∀H',Same H0 H'->mW H' f (seq++[pZ ws i j])->D.nx [x0,u,t,some (.ref b),some (.ref f),some (.int j),some (.int i)] H'):
 Uc (tBM K "list" vo (d_ 4) (jq (abh (jq (CT (qO K) (d_ 3) (d_ 6)) (jq (tBM K "list" (K8 K) (tSl (Uy K) (d_ 3) FJ (T_ (d_ 6))) (jq (CT (qO K) (d_ 3) (d_ 6)) wJ)) (jq (CT (qO K) (d_ 3) (d_ 5)) (jq (tBM K "list" (K8 K) (tSl (Uy K) (d_ 3) FJ (T_ (d_ 5))) (jq (CT (qO K) (d_ 3) (d_ 5)) wJ)) wJ))))) wJ)) D [x0,u,t,some (.ref b),some (.ref f),some (.int j),some (.int i)] H:=by
 obtain⟨v,x,G⟩:=N;have R:(yN ws).length=ws.length:=by unfold yN;simp
 have q:∀m:Nat,m<ws.length->yP ((yN ws).map V.int) (m:Int)=some (.int (gI (yN ws) m)):=λm S=>iT LZ LZ;refine⟨_,Z,.inl ⟨Z,_,bF.of x⟩,_,Z,_,Z,b,_,i,_,Z,Z,bF.of d,q i LZ,_,Z,_,Z,i,Z,b,_,Z,bF.of d,λp M=>?_⟩;have g:=aH (o:=HO.lst (lQ ((yN ws).map V.int) none (some (i:Int)))) M;have z:(upd H p (.lst (lQ ((yN ws).map V.int) none (some (i:Int))))) p=some (.lst (((yN ws).take i).map V.int)):=by rw[ao,Cj,List.map_take]
 generalize upd H p (.lst (lQ ((yN ws).map V.int) none (some (i:Int))))=H1 at g z ⊢;refine⟨.inl ⟨Z,_,bF.of z⟩,_,Z,_,Z,b,_,i,_,Z,Z,bF.of (g _ _ d),q i LZ,p,_,_,Z,Z,bF.of z,_,Z,_,Z,b,_,j,_,Z,Z,bF.of (g _ _ d),q j E,_,Z,_,Z,j,Z,b,_,Z,bF.of (g _ _ d),λn L=>?_⟩;have C:=aH (o:=HO.lst (lQ ((yN ws).map V.int) none (some (j:Int)))) L;have y:(upd H1 n (.lst (lQ ((yN ws).map V.int) none (some (j:Int))))) n=some (.lst (((yN ws).take j).map V.int)):=by rw[ao,Cj,List.map_take]
 generalize upd H1 n (.lst (lQ ((yN ws).map V.int) none (some (j:Int))))=H2 at C y ⊢;have e:=g.trans C;refine⟨.inl ⟨Z,_,bF.of y⟩,_,Z,_,Z,b,_,j,_,Z,Z,bF.of (e _ _ d),q j E,n,_,_,Z,Z,bF.of y,sZ4,λc J=>?_⟩;have B:=aH (o:=HO.tup (nV (pZ ws i j))) J;have F:(upd H2 c (.tup (nV (pZ ws i j)))) c=some (.tup (nV (pZ ws i j))):=ao;show vo (.ref f) [.ref c] (upd H2 c (.tup (nV (pZ ws i j)))) (λ_ H1=>D.nx [x0,u,t,some (.ref b),some (.ref f),some (.int j),some (.int i)] H1);generalize upd H2 c (.tup (nV (pZ ws i j)))=P at B F ⊢;have s:=e.trans B
 have w:v.length<sizeLine:=by have:=G.length;rw[aak] at this;rw[sizeLine_eq];lia
 refine⟨f,v,_,Z,Z,s _ _ x,w,k _ (oh (I.trans s) O) ⟨_,ao,?_⟩⟩;have A:=(Kp.set (H:=P) (r:=f) (o:=HO.lst (v++[V.ref c]))).tups (s _ _ x);rw[abd];exact iU (aV.keep (λa Q h=>A _ _ (s.tups _ _ h)) _ (cI _ qZ seq) G) (Dat.keep A _ (qZ _) (Cg F))
inductive Uh(K:zzy)(vs:List V)(H:Hp)(Q:VK)(dY:XK):Prop|m:∀(w:Addr)(ws:List lY)(few:Bool),vs=[.ref w,.bl few]->yC H w ws->ws.length<=50->(∀t seq H',H t=none->Same H H'->mW H' t seq->seq.length<=2500->(∀x,x∈seq ↔ ∃i j,j<ws.length/\tQ ws few i j/\x=pZ ws i j)->Q (.ref t) H')->Uh K vs H Q dY
theorem ab1(F:fU K "_law_notes" "_law_notes" Ay f fd)(HY:FnAt P w K mg base 1 "_law_meet" ["one","other"] (wM K))(Xm:FnAt P w K mg base 2 "_law_ahead" ["web"] (Uj K))(M_:FnAt P w K mg base 1 "_law_covered" ["ahead","i","j"] (Oc K))(Bt:lZ mg):bN P w K mg base ig 3 f fd ["web","few"] (Uh K):=by
 refine F.ok kO (λvs H Q E h=>?_) (λa0 A Y s H vs Q E hr h=>?_)
 .obtain⟨w,n,g,rfl,_⟩:=h
  rfl
 .obtain⟨w,n,g,rfl,hw,hl,k⟩:=h
  refine⟨_,(aA (bH (i:=2) kO.nd rfl (Or.inl rfl) (bK Xm (hr.mono DZ) oZR (aj (pv 0) au)))
   (aA (mL (i:=3) rfl kO.nd rfl (Or.inl rfl) (N:=["touched"]) (own:=["touched"]) (caps:=[]) (bA.of (by kernel_rfl)) (cQ (K:=K) rfl (pv 0)) (λ_ _ _ _=>(bI (i:=0) (show List.Nodup (["touched"]:List Str) by decide +kernel) rfl (Or.inl rfl))) (λ_ _ _ _=>cO) (λ_ _ _ _=>(aP (aX (K:=K) rfl) (pv 0) aG (λ_ _=>rfl))))
   (aA (bH (i:=4) kO.nd rfl (Or.inl rfl) (cP au))
   (aA (iI PassesOwn.never rfl (cN oZR Bt.dH (aj (aU (aW (K:=K) rfl) oZR Bt.dR cH (aj (pv 0) au)) au)) (bI (i:=5) kO.nd rfl (Or.inl rfl))
   (aJ (iI PassesOwn.never rfl (cN oZR Bt.dH (aj (pv 5) au)) (bI (i:=6) kO.nd rfl (Or.inl rfl))
   (aJ (bY (PW.pt (xu (cX (bK HY (hr.mono DZ) oZR (aj (aP (aO (K:=K) rfl) (pv 0) (pv 6) (λ_ _=>rfl)) (aj (aP (aO (K:=K) rfl) (pv 0) (pv 5) (λ_ _=>rfl)) au)))) (vp (fH (PW.pt (xu (cX (pv 1)) (vp (cX (bK M_ (hr.mono DZ) oZR (aj (pv 2) (aj (pv 6) (aj (pv 5) au)))))))))))) (aJ (cL (fW (K:=K) rfl (pv 4) (aj (dI (aj (aP (aO (K:=K) rfl) (pv 3) (pv 6) (λ_ _=>rfl)) (aj (xH (K:=K) rfl PySem.F.plainAttrs_list PySem.F.slot_list_count PySem.F.type_list_count (xJ (K:=K) rfl) (jQ (nZ (K:=K) rfl) (pv 3) mQ (mO (pv 6))) (aj (aP (aO (K:=K) rfl) (pv 3) (pv 6) (λ_ _=>rfl)) au)) (aj (aP (aO (K:=K) rfl) (pv 3) (pv 5) (λ_ _=>rfl)) (aj (xH (K:=K) rfl PySem.F.plainAttrs_list PySem.F.slot_list_count PySem.F.type_list_count (xJ (K:=K) rfl) (jQ (nZ (K:=K) rfl) (pv 3) mQ (mO (pv 5))) (aj (aP (aO (K:=K) rfl) (pv 3) (pv 5) (λ_ _=>rfl)) au)) au))))) au)))) bG)))))
   (aJ (aZ (pv 4))))))),?_⟩
  show Ip _ _ _ [some (.ref w),some (.bl g),none,none,none,none,none] H;refine⟨_,Z,w,n,Z,hw,hl,λt H1 s1 tb=>?_⟩;have r:=hw.same s1;obtain⟨u,R,dw⟩:=id r;have lw:u.length=n.length:=by simpa using dw.length
  have it:∀(m:Nat)(v:V),u[m]?=some v -> ∃b x,n[m]?=some x/\v=.ref b/\H1 b=some (.tup [.int x.1,.str x.2.1,.int x.2.2]):=λm v C=>by
   have lm:m<n.length:=by rw[←lw];exact(aam.mp C).1
   obtain⟨vs,b,e1,_,e2,e3⟩:=zT r (aal lm);rw[R] at e1;cases e1;rw[C] at e2;cases e2;exact⟨b,_,aal lm,Z,e3⟩
  refine⟨_,Z,w,Z,⟨_,bF.of R⟩,λD hD=>?_⟩;show iu _ _ _ _ _ _ [none] H1;have zz:50<sizeLine:=by decide
  refine jC (xs:=u) (λm l H2=>(∃v,l=[v])/\Same H1 H2/\H2 D=some (.lst (((yN n).take m).map V.int))) ⟨⟨_,Z⟩,aH hD,ao⟩ (λm l H2 _ ⟨_,I,_⟩=>bF.of (I _ _ R)) ?_ ?_
  .rintro m v l H2 C ⟨⟨v0,rfl⟩,I,e⟩
   obtain⟨b,x,ex,rfl,eb⟩:=it m v C;have em:(yN n)[m]?=some x.1:=by unfold yN;rw[aap,ex];rfl
   dsimp only[bV,uO];rw[adq rfl];refine⟨_,Z,_,_,_,_,Z,Z,cC.of (I _ _ eb),Z,_,e,?_,⟨_,Z⟩,oh I hD,?_⟩
   .rw[aak,acH]
    have:m<n.length:=by rw[←lw];exact(aam.mp C).1
    lia
   .rw[ao,acq,em,abd]
    rfl
  rintro l H2 ⟨_,J,eh⟩
  have eh:H2 D=some (.lst ((yN n).map V.int)):=by rw[eh,List.take_of_length_le (by unfold yN;rw[aak];lia)]
  refine⟨by show 0<=sizeLine;exact Nat.zero_le _,λf O=>?_⟩;have B:=s1.trans J
  have f0:H f=none:=Classical.byContradiction λz=>by obtain⟨o,eo⟩:=Option.ne_none_iff_exists'.mp z;rw[B _ _ eo] at O;cases O
  have s3:Same H2 (upd H2 f (.lst [])):=aH O;refine⟨_,Z,w,u,Z,.inl (bF.of (s3 _ _ (J _ _ R))),(u.length:Int),Z,LZ,LZ,?_⟩;rw[lw,abf];refine gZ (λj l G=>∃(U p:Option V) (seq:List Nt),l=[some (.ref w),some (.bl g),some (.ref t),some (.ref D),some (.ref f),U,p]/\Same H2 G/\mW G f seq/\yD n g j 0 seq) ⟨_,_,[],Z,s3,⟨[],ao,by simp[aV]⟩,MZ,λx=>⟨λz=>by simp at z,λ⟨M,L,z,_⟩=>LZ⟩⟩ ?_ ?_
  .rintro j l G hj ⟨U,p,seq,rfl,X,N4,d⟩
   have e0:(0:Int)+(j:Int)=(j:Int):=Int.zero_add _;rw[e0];refine⟨_,Z,(j:Int),Z,LZ,LZ,?_⟩;rw[abf];refine gZ (λi l T=>∃(p:Option V) (seq:List Nt),l=[some (.ref w),some (.bl g),some (.ref t),some (.ref D),some (.ref f),some (.int j),p]/\Same H2 T/\mW T f seq/\yD n g j i seq) ⟨_,seq,Z,X,N4,d⟩ ?_ ?_
   .rintro i l T hi ⟨p,seq,rfl,y,S,d⟩
    have e0:(0:Int)+(i:Int)=(i:Int):=Int.zero_add _;rw[e0];refine VH (r.same (J.trans y)) (tb.same (J.trans y)) hl hi hj λc H6 W hc=>?_;have q:=y.trans W;cases c with
    | false=>exact cW ⟨_,seq,Z,q,S.same W,Um d λz=>by cases hc.mpr z⟩
    | true=>
      refine eO (Zh (q _ _ eh) hl hi hj O q (S.same W) (by have:=d.1;lia) λH' s7 N7=>?_);exact⟨_,_,Z,s7,N7,Yp d (hc.mp rfl)⟩
   .rintro l T ⟨p,seq,rfl,y,S,d⟩
    exact⟨_,_,seq,Z,y,S,Yo d LZ⟩
  .rintro l G ⟨U,p,seq,rfl,X,N4,d⟩
   refine⟨_,Z,k _ seq G f0 (B.trans X) N4 (by have:=d.1;lia) λx=>(d.2 x).trans ⟨λ⟨M,L,a,b⟩=>⟨M,L,LZ,b⟩,λ⟨M,L,a,b⟩=>⟨M,L,.inl a,b⟩⟩⟩
structure PgH(H:Hp)(p L:Addr)(rs:List Addr)(rws:List (List Rw))(m:Nat):Prop where
 ep:H p=some (.tup [.int m,.ref L])
 eL:H L=some (.lst (rs.map V.ref))
 len:rs.length=rws.length
 row:∀(k:Nat)(r:Addr)(x:List Rw),rs[k]?=some r->rws[k]?=some x->fM H r m x
def Pg.h(g:Pg τ H p L rs rws m):PgH H p L rs rws m:=⟨g.ep,g.eL,g.len,λk r x b a=>(g.row k r x b a).2⟩
def afI(H:Hp)(v:V)(ns:List Int)(m:Nat):Prop:=qR m ns/\((v=.non/\ns=List.replicate m 0) \/ ∃l,v=.ref l/\H l=some (.lst (ns.map V.int)))
def NumV.h{τ:Tg}{H:Hp}{v:V}{ns:List Int}{m:Nat}(h:NumV τ H v ns m):afI H v ns m:=⟨h.1,h.2.elim .inl λ⟨l,e,_,q⟩=> .inr ⟨l,e,q⟩⟩
def Zk{G:Addr}{d:V}{Q:Addr->Hp->Prop}(g:PgH H p L rs rws m)(w:rws.length<=100)(j:m<=100)(un:rF τ H)(A:i≠0)(t:afI H d ns m)(go:∀(τ':Tg)(W:rE)(H':Hp),j9 CW CH i τ' H' W (Du m ns rws)->(∀x u,H x=some u->τ' x=τ x)->Same H H'->Q W.o H')(o a:Addr)(l:H o=none)(n:H a=none)(f:a≠o):
 mC CW CH G K (.ref o::([.ref p,d]++[])) (upd (upd H a (.own o)) o (.ins CW a [])) (λv H'=>v=.non/\Q o H') (λ_ _ _=>False):=by
 obtain⟨good,B⟩:=t;have k:(upd H a (.own o)) o=none:=by rw[aF f.symm];exact l
 have b:Same H (upd (upd H a (.own o)) o (.ins CW a [])):=(aH n).trans (aH k);refine⟨i,τ,o,a,p,L,rs,m,d,ns,rws,Z,ao,b _ _ g.ep,b _ _ g.eL,g.len,λz s x D C=>(g.row z s x D C).same b,w,j,un.same b,A,by have:=good.1;lia,?_,λ_ c W F E q r y=>⟨Z,?_⟩,λbad=>adt good bad⟩
 .rcases B with h|⟨cl,e,h⟩
  .exact .inl h
  .exact .inr ⟨cl,e,b _ _ h⟩
 .rw[←E]
  exact go c W F q (λx u e=>r x u (b _ _ e) (aB e l)) (λx u e=>y _ _ (b _ _ e) (aB e l))
def tcV(t:Tc):List V:=[.str (tO t.r),.int (je t.r),oV t.rd,oV t.wr]
def KJ(t:Tc):PyData:= .tuple [.str (tO t.r),.int (je t.r),oD t.rd,oD t.wr]
def gj(t:Tc):lY:=((t.k:Int),tO t.r,(je t.r:Int))
def acA(x:Option Int):CV (oD x)=true:=by cases x<;>rfl
def acz(t:Tc):CV (KJ t)=true:=by simp only[KJ,CV,qX,acA,Bool.and_self]
def acU{t:Tc}(h:H p=some (.tup (tcV t))):Dat H (.ref p) (KJ t):=by unfold KJ tcV at *;simp only[Dat];exact⟨p,_,Z,h,by simp only[aV,Dat,and_true,true_and];exact⟨Hs _,Hs _⟩⟩
theorem Gq:∀{l:List Tc}{S S':dD},Run S l S'->S'.ts=S.ts++l.map λt=>(t.k:Int)
 | [],S,S',h=>by have h:S'=S:=h;rw[h];simp
 | t::l,S,S',⟨a,h⟩=>by rw[Gq h];obtain⟨s,_,_,e⟩:=a.turn;rw[e];simp
theorem xq:∀{l:List Tc}{S S':dD},Run S l S'->S'.hs.length=S.hs.length/\S'.m=S.m
 | [],S,S',h=>by have h:S'=S:=h;rw[h];exact⟨Z,Z⟩
 | t::l,S,S',⟨a,h⟩=>by rw[(xq h).1,(xq h).2];obtain⟨s,_,_,e⟩:=a.turn;rw[e];simp
theorem vh:∀{l:List Tc}{S S':dD},Run S l S'->jW S->jW S'
 | [],S,S',h,g=>by have h:S'=S:=h;rw[h];exact g
 | t::l,S,S',⟨a,h⟩,g=>vh h (g.turn _)
theorem aat:∀{l:List Tc}{S S':dD},Run S l S' -> ∀t∈l,t.k<S.hs.length
 | [],S,S',h,t,b=>by cases b
 | x::l,S,S',⟨a,h⟩,t,b=>by
   obtain⟨s,es,_⟩:=id a;rcases List.mem_cons.mp b with rfl|b
   .exact(aam.mp es).1
   .have:=aat h t b
    obtain⟨s,_,_,e⟩:=a.turn;rw[e] at this;simpa using this
def ZL(hs:List bJ)(n:Nat):(List.range n).filterMap (λi=>if jN hs i then some (V.int (i:Nat)) else none)=((List.range n).filter (jN hs)).map λk:Nat=>V.int k:=Wr (jN hs) (λk:Nat=>V.int k) n
structure rM(i:Nat)(τ:Tg)(H:Hp)(τ':Tg)(H':Hp):Prop where
 keep:∀x o,H x=some o->τ x≠[]->(τ x).head?≠some i->H' x=some o
 tg:∀x o,H x=some o->τ' x=τ x
 tup:∀x xs,H x=some (.tup xs)->H' x=some (.tup xs)
 dom:∀x,H' x=none->H x=none
def rM.trans{H1 H2:Hp}(a:rM i τ H τ1 H1)(b:rM i τ1 H1 τ2 H2):rM i τ H τ2 H2:=
 ⟨λx o e n m=>b.keep _ _ (a.keep _ _ e n m) (by rw[a.tg _ _ e];exact n) (by rw[a.tg _ _ e];exact m),λx o e=>by
   cases q:H1 x with
   | none=>rw[a.dom x q] at e;cases e
   | some u=>rw[b.tg _ _ q,a.tg _ _ e],λx c e=>b.tup _ _ (a.tup _ _ e),λx e=>a.dom _ (b.dom _ e)⟩
def rM.same(s:Same H H'):rM i τ H τ H':=⟨λ_ _ e _ _=>s _ _ e,λ_ _ _=>rfl,λ_ _ e=>s _ _ e,λx e=>s.free e⟩
def rM.claim{t:List Nat}(s:Same H H')(a:H p=none):rM i τ H (aQ τ p t) H':=⟨λ_ _ e _ _=>s _ _ e,λ_ _ e=>aR (aB e a),λ_ _ e=>s _ _ e,λx e=>s.free e⟩
theorem adS{W:rE}{Q:VK}(w:j9 ak aq i τ H W S)(r:S.hs.length<=8)(o:H D=none)(k:∀H',Same H H'->H' D=some (.lst ((qu S.hs).map λk:Nat=>V.int k))->Q (.ref D) H'):
 iu (Xh 0 S.hs.length) (bV 0) (TY (CT rEq (Iv ak "how" (λvs H Q _=>yh ak aq bw K vs H Q λ_ _ _=>False) [] E0 (d_ 1) (jq (d_ 0) wJ)) (tC (.str "waits")))) (d_ 0) Q D (none::[some (.ref W.o)]) H:=by
 refine sX (λz=>if jN S.hs z then some (.int (z:Nat)) else none) o LZ (λz e G F n b g h=>?_) (λe b l=>?_)
 .have f:=w.same b
  have j:S.hs[z]?=some S.hs[z]:=by simp[n]
  have c:ux ((0:Int)+z) S.hs.length:=⟨LZ,LZ⟩;refine⟨_,Z,W.o,W.dx,_,Z,f.o,Z,_,Z,i,τ,W,S,_,Z,f,λm t3 s a=>?_,λz=>adt c z⟩
  obtain rfl:t3=S.hs[z]:=by
   have:m=z:=by lia
   subst this;rw[j] at a;exact(aaY a).symm
  refine⟨Z,_,Z,?_⟩;have p:jN S.hs z=decide (S.hs[z].st = "waits"):=by unfold jN;rw[j]
  rw[p] at g h;refine cV (λq=>?_) (λq=>?_)
  .have d:S.hs[z].st=Str.ofString "waits" :=V.str.inj (aaQ q)
   refine⟨_,Z,h _ e (Same.refl _) ?_⟩;rw[aaO d,Int.zero_add];rfl
  .refine g e (Same.refl _) ?_
   have d:¬S.hs[z].st=Str.ofString "waits" :=λz=>q (aaO (by rw[z]));rw[aaP d];rfl
 .rw[ZL] at l
  exact k _ b l
structure Ru(CW CH:Addr)(i j:Nat)(τ0:Tg)(H0:Hp)(τ:Tg)(H:Hp)(r:Addr)(W:rE)(S S1:dD)(l:List Tc)(a tl:Addr)(tls:List Addr):Prop where
 w:j9 CW CH i τ H W S1
 T:RT τ H r
 R:Run S l S1
 ea:∃refs,H a=some (.lst refs)/\aV H refs ((l.map gj).map tD)
 ta:τ a=[j]
 et:H tl=some (.lst (tls.map V.ref))
 tt:τ tl=[j]
 nt:tls.length=S.hs.length
 ne:a≠tl
 ps:∀k p,tls[k]?=some p->τ p=[j]/\p≠tl/\p≠a /\ ∃us,H p=some (.lst us)/\aV H us ((l.filter λt=>t.k=k).map KJ)
 dj:∀(k k':Nat) p,tls[k]?=some p->tls[k']?=some p->k=k'
 fr:rM i τ0 H0 τ H
 j0:j≠0
 ji:j≠i
 tch:∀x∈l,touch x.r=true
def vJ(l:List Tc):qX (l.map KJ)=true:=cI _ acz l
def Ru.mv{H0:Hp}{r:Addr}{W:rE}{S1:dD}(u:Ru CW CH i j τ0 H0 τ H r W S S1 l a tl tls)(g:j9 CW CH i τ' H' W S1)(v:RT τ' H' r)(f:rM i τ H τ' H'):Ru CW CH i j τ0 H0 τ' H' r W S S1 l a tl tls:=by
 have b:∀x o,H x=some o->τ x=[j]->H' x=some o:=λx o e t=>f.keep _ _ e (by rw[t];simp) (by rw[t];intro z;exact u.ji (aaY z));obtain⟨refs,c,s⟩:=u.ea
 exact⟨g,v,u.R,⟨refs,b _ _ c u.ta,aV.keep f.tup _ (cI tD L_ _) s⟩,(f.tg _ _ c).trans u.ta,b _ _ u.et u.tt,(f.tg _ _ u.et).trans u.tt,u.nt,u.ne,λk p h=>by obtain⟨t,q,n,m,e,d⟩:=u.ps k p h;exact⟨(f.tg _ _ e).trans t,q,n,m,b _ _ e t,aV.keep f.tup _ (vJ _) d⟩,u.dj,u.fr.trans f,u.j0,u.ji,u.tch⟩
def GK{o u:HO}(d:j≠0)(c:j≠i)(b:τ a=[j])(e:H a=some o)(n:∀xs,o ≠ .tup xs):Mv i τ H τ (upd H a u):=by
 refine⟨λx v ex t=>⟨?_,Z⟩,λx xs ex=>?_⟩
 .have:x≠a:=λz=>by
   rw[z,b] at t;rcases t with t|t
   .exact d (List.cons.inj t).1
   .exact c (aaY t)
  rw[aF this];exact ex
 .rw[aF (dG ex e λz=>n xs z.symm)];exact ex
def Fy{o:HO}(u:rF τ H):rF τ (upd H a o):=u.dom λy e=>by
 by_cases z:y=a
 .rw[z,ao] at e;cases e
 .rw[aF z] at e;exact e
theorem Ru.add{H0 H1 H2:Hp}{r:Addr}{W:rE}{S1:dD}{t u:Addr}{refs us:List V}{c:Tc}(b:Ru CW CH i j τ0 H0 τ H r W S S1 l a tl tls)(a0:H0 a=none)(p0:∀p∈tls,H0 p=none)(Q:Qm S1 c)(L:touch c.r=true)(w1:j9 CW CH i τ H1 W (cG S1 c.k))(st:k_ i τ H H1)(g:Same H1 H2)(e1:H2 t=some (.tup (tcV c)))(e2:H2 u=some (.tup [.int (gj c).1,.str (gj c).2.1,.int (gj c).2.2]))(G:H2 a=some (.lst refs))(F:tls[c.k]?=some p)(I:(upd H2 a (.lst (refs++[.ref u]))) p=some (.lst us)):
 Ru CW CH i j τ0 H0 τ (upd (upd H2 a (.lst (refs++[.ref u]))) p (.lst (us++[.ref t]))) r W S (cG S1 c.k) (l++[c]) a tl tls:=by
 have N:=b.j0;have D:=b.ji;obtain⟨M,pt,pa,K,w,dp⟩:=b.ps _ _ F;have B:=b.ta;have C:∀x o,H x=some o->τ x=[j]->H2 x=some o:=λx o e t=>g _ _ (st.keep _ _ e (by rw[t];intro z;exact D (aaY z)));have J:∀x d,H x=some (.tup d)->H2 x=some (.tup d):=λx d e=>g _ _ (st.tup _ _ e);have X:=w1.same g;have T2:=(b.T.stp st).same g;have nl:∀{A:List V} d,HO.lst A ≠ .tup d:=by intro A d z;cases z
 have U:=X.mv (GK (u:= .lst (refs++[.ref u])) N D B G nl) (Fy X.un);have T3:=T2.set (u:= .lst (refs++[.ref u])) G (by rw[B];simp);have v:H2 p=some (.lst us):=by rw[aF pa] at I;exact I
 have O:us=K:=by have:=C _ _ w M;rw[v] at this;cases this;rfl
 subst O;have w4:=U.mv (GK (u:= .lst (us++[.ref t])) N D M I nl) (Fy U.un);have T4:=T3.set (u:= .lst (us++[.ref t])) I (by rw[M];simp)
 have s:∀x d,H2 x=some (.tup d)->(upd (upd H2 a (.lst (refs++[.ref u]))) p (.lst (us++[.ref t]))) x=some (.tup d):=λx d e=>by rw[aF (dG e v ZN),aF (dG e G ZN)];exact e
 obtain⟨f,ea,da⟩:=b.ea
 have P:refs=f:=by have:=C _ _ ea B;rw[G] at this;cases this;rfl
 subst P;refine⟨w4,T4,?_,⟨refs++[.ref u],by rw[aF (Ne.symm pa),ao],?_⟩,B,?_,b.tt,b.nt,b.ne,λk q E=>?_,b.dj,⟨λx o e n m=>?_,b.fr.tg,λx d e=>s _ _ (J _ _ (b.fr.tup _ _ e)),λx e=>b.fr.dom x ?_⟩,N,D,λx hx=>(abA.mp hx).elim (b.tch x) λh=>by rw[ab7.mp h];exact L⟩
 .exact Run.app.mpr ⟨S1,b.R,Q,Z⟩
 .rw[abd,abd]
  exact iU (aV.keep (λx d e=>s _ _ (J _ _ e)) _ (cI tD L_ _) da) (ZW (x:=gj c) (s _ _ e2))
 .rw[aF (Ne.symm pt),aF (Ne.symm b.ne)]
  exact C _ _ b.et b.tt
 .obtain⟨Y,q1,q2,A,eq,dq⟩:=b.ps k q E
  refine⟨Y,q1,q2,?_⟩
  by_cases z:k=c.k
  .subst z
   rw[F] at E;cases E;rw[w] at eq;cases eq;refine⟨_,ao,?_⟩;rw[ado,abd];have:List.filter (λt:Tc=>decide (t.k=c.k)) [c]=[c]:=by simp
   rw[this];exact iU (aV.keep (λx d e=>s _ _ (J _ _ e)) _ (vJ _) dq) (acU (s _ _ e1))
  .have qp:q≠p:=λy=>z (b.dj k c.k q E (by rw[y];exact F))
   refine⟨A,by rw[aF qp,aF q2];exact C _ _ eq Y,?_⟩
   have:List.filter (λt:Tc=>decide (t.k=k)) (l++[c])=l.filter λt=>decide (t.k=k):=by rw[ado];have:¬c.k=k:=λy=>z y.symm;simp[this]
   rw[this];exact aV.keep (λx d e=>s _ _ (J _ _ e)) _ (vJ _) dq
 .rw[aF (aB e (p0 p (aaN F))),aF (aB e a0)]
  exact g _ _ (st.keep _ _ (b.fr.keep _ _ e n m) (by rw[b.fr.tg _ _ e];exact m))
 .by_cases T:x=p
  .rw[T,ao] at e;cases e
  .rw[aF T] at e
   by_cases R:x=a
   .rw[R,ao] at e;cases e
   .rw[aF R] at e
    exact st.dom _ (g.free e)
structure Ss(CW CH:Addr)(i j:Nat)(τ0:Tg)(H0:Hp)(τ:Tg)(H:Hp)(r:Addr)(W:rE)(S:dD)(a tl:Addr)(n:Nat)(ps:List Addr):Prop where
 w:j9 CW CH i τ H W S
 T:RT τ H r
 ea:H a=some (.lst [])
 ta:τ a=[j]
 et:H tl=some (.lst (ps.map V.ref))
 tt:τ tl=[j]
 nt:ps.length=n
 ne:a≠tl
 pe:∀(k:Nat) p,ps[k]?=some p->τ p=[j]/\p≠tl/\p≠a/\H p=some (.lst [])
 dj:∀(k k':Nat) p,ps[k]?=some p->ps[k']?=some p->k=k'
 fr:rM i τ0 H0 τ H
 p0:∀p∈ps,H0 p=none
theorem Ss.more{H0:Hp}{r:Addr}{W:rE}{q:Addr}{ps:List Addr}(v:Ss CW CH i j τ0 H0 τ H r W S a tl n ps)(N:j≠0)(M:j≠i)(t0:H0 tl=none)(b:H q=none):
 Ss CW CH i j τ0 H0 (aQ τ q [j]) (upd (upd H q (.lst [])) tl (.lst (ps.map V.ref++[.ref q]))) r W S a tl (n+1) (ps++[q]):=by
 have s:=aH (o:=HO.lst []) b;have eq:(upd H q (.lst [])) q=some (.lst []):=ao;have B:=v.T.claim (t:=[j]) s b ⟨_,eq⟩;have l:=v.w.mv (Mv.claim (p:=q) (t:=[j]) s b) B.un;have u:∀x o,H x=some o->aQ τ q [j] x=τ x:=λx o e=>aR (aB e b);have I:aQ τ q [j] q=[j]:=bC;have d:rM i τ0 H0 (aQ τ q [j]) (upd H q (.lst [])):=v.fr.trans (.claim s b);have q0:H0 q=none:=v.fr.dom q b;generalize upd H q (.lst [])=H1 at s eq B l d ⊢;generalize aQ τ q [j]=C at B l u I d ⊢;have J:q≠tl:=λz=>by rw[z,v.et] at b;cases b
 have L:q≠a:=λz=>by rw[z,v.ea] at b;cases b
 have f:=s _ _ v.et;have c:C tl=[j]:=(u _ _ v.et).trans v.tt;have nl:∀{G:List V} D,HO.lst G ≠ .tup D:=by intro G D z;cases z
 have g:∀k,ps[k]? ≠ some q:=λk z=>by rw[(v.pe k q z).2.2.2] at b;cases b
 refine⟨l.mv (GK N M c f nl) (Fy l.un),B.set f (by rw[c];simp),by rw[aF v.ne];exact s _ _ v.ea,(u _ _ v.ea).trans v.ta,by rw[ao,abd];rfl,c,by simp[v.nt],v.ne,λk p h=>?_,λk E p h P=>?_,⟨λx o e n m=>?_,d.tg,λx D e=>?_,λx e=>d.dom x ?_⟩,λp O=>?_⟩
 .rcases Nat.lt_or_ge k ps.length with z|z
  .rw[aa6 z] at h
   obtain⟨F,w,Q,K⟩:=v.pe k p h;exact⟨(u _ _ K).trans F,w,Q,by rw[aF w];exact s _ _ K⟩
  .rw[aa5 z] at h
   have:p=q:=by have:=aaN h;simpa using this
   subst this;exact⟨I,J,L,by rw[aF J];exact eq⟩
 .have side:∀k,(ps++[q])[k]?=some p->(k<ps.length/\ps[k]?=some p)\/(k=ps.length/\p=q):=λk h=>by
   rcases Nat.lt_or_ge k ps.length with z|z
   .rw[aa6 z] at h
    exact .inl ⟨z,h⟩
   .rw[aa5 z] at h
    have R:k-ps.length<1:=(aam.mp h).1;exact .inr ⟨LZ,by have:=aaN h;simpa using this⟩
  rcases side k h with ⟨_,A⟩|⟨A,F⟩<;>rcases side E P with ⟨_,y⟩|⟨y,w⟩
  .exact v.dj k E p A y
  .rw[w] at A;exact adt A (g k)
  .rw[F] at y;exact adt y (g E)
  .lia
 .rw[aF (aB e t0)]
  exact d.keep _ _ e n m
 .rw[aF (aB e t0)]
  exact d.tup _ _ e
 .by_cases z:x=tl
  .rw[z,ao] at e;cases e
  .rw[aF z] at e;exact e
 .rcases abA.mp O with h|h
  .exact v.p0 p h
  .rw[ab7.mp h];exact q0
def Ss.done{H0:Hp}{r:Addr}{W:rE}{ps:List Addr}(v:Ss CW CH i j τ0 H0 τ H r W S a tl S.hs.length ps)(c:j≠0)(b:j≠i):Ru CW CH i j τ0 H0 τ H r W S S [] a tl ps:=⟨v.w,v.T,Z,⟨[],v.ea,by simp[aV]⟩,v.ta,v.et,v.tt,v.nt,v.ne,λk p h=>let ⟨g,f,e,d⟩:=v.pe k p h;⟨g,f,e,[],d,by simp[aV]⟩,v.dj,v.fr,c,b,(λ_ h=>nomatch h)⟩
inductive FT(CW CH:Addr)(K:zzy)(vs:List V)(H:Hp)(Q:VK)(dY:XK):Prop|m:∀(r:Addr)(i j:Nat)(τ:Tg)(W:rE)(S:dD)(m:Nat),vs=[.ref r,.ref W.o,.int S.hs.length,.int m]->RT τ H r->j9 CW CH i τ H W S->jW S->S.ts.length<=100->m<=50->S.hs.length<=8->j≠0->j≠i->(∀(t a tl:Addr)(tls:List Addr)(l:List Tc)(S1:dD)(τ':Tg)(H':Hp),H' t=some (.tup [.ref a,.ref tl])->Ru CW CH i j τ H τ' H' r W S S1 l a tl tls->l.length<=m->Q (.ref t) H')->FT CW CH K vs H Q dY
theorem Y9(F:fU K "_law_run" "_law_run" K4 f fd)(bT:FnAt P w K mg base 1 "_law_draw" ["reel","many"] (kh K))(aK:cD K ak)(gR:MethAt P w K mg base 4 ak "how" ["self","hand"] (λvs H Q _=>yh ak aq bw K vs H Q λ_ _ _=>False))(jj:MethAt P w K mg base 7 ak "turn" ["self","hand"] (λvs H Q _=>wL ak aq bw cZ K vs H Q λ_ _ _=>False))(Bt:lZ mg):bN P w K mg base ig 9 f fd ["reel","works","hands","turns"] (FT ak aq K):=by
 refine F.ok o9 (λvs H Q E h=>?_) (λc3 A b1 s H vs Q E hr h=>?_)
 .obtain⟨r,i,j,I,W,S,m,rfl,_⟩:=h
  rfl
 .obtain⟨r,i,j,I,W,S,m,rfl,T,w,g,tl,c2,n8,j0,ji,k⟩:=h
  have oJ:=hr.units
  refine⟨_,(aA (bH (i:=4) o9.nd rfl (Or.inl rfl) (cP au))
   (aA (mL (i:=5) rfl o9.nd rfl (Or.inl rfl) (N:=["k"]) (own:=["k"]) (caps:=[]) (bA.of (by kernel_rfl)) (cN oZR Bt.dH (aj (pv 2) au)) (λ_ _ _ _=>(bI (i:=0) (show List.Nodup (["k"]:List Str) by decide +kernel) rfl (Or.inl rfl))) (λ_ _ _ _=>cO) (λ_ _ _ _=>(cP au)))
   (aA (iI PassesOwn.never rfl (cN oZR Bt.dH (aj (pv 3) au)) (bI (i:=6) o9.nd rfl (Or.inl rfl))
   (aA (mL (i:=7) rfl o9.nd rfl (Or.inl rfl) (N:=["k","works"]) (own:=["k"]) (caps:=[1]) (bA.of (by kernel_rfl)) (cN oZR Bt.dH (aj (pv 2) au)) (λ_ _ _ _=>(bI (i:=0) (show List.Nodup (["k","works"]:List Str) by decide +kernel) rfl (Or.inl rfl))) (λ_ _ _ _=>(vq (bD dZ (cu gR aK.cls (hr.mono DZ) (pv 1) (aj (pv 0) au)) bO (bh _)))) (λ_ _ _ _=>(pv 0)))
   (aA (bY (bD (pJ (K:=K) rfl oJ) (pv 7) (cP au) (bh _)) (aJ U9) bG)
   (aA (bH (i:=8) o9.nd rfl (Or.inl rfl) (aP (aO (K:=K) rfl) (pv 7) (bK bT (hr.mono DZ) oZR (aj (pv 0) (aj (aU (aW (K:=K) rfl) oZR Bt.dR cH (aj (pv 7) au)) au))) (λ_ _=>rfl)))
   (aA (bH (i:=9) o9.nd rfl (Or.inl rfl) (cu jj aK.cls (hr.mono DZ) (pv 1) (aj (pv 8) au)))
   (aA (cL (fW (K:=K) rfl (pv 4) (aj (dI (aj (pv 8) (aj (aP (aX (K:=K) rfl) (pv 9) aG (λ_ _=>rfl)) (aj (aP (aX (K:=K) rfl) (pv 9) aG (λ_ _=>rfl)) au)))) au)))
   (aJ (cL (fW (K:=K) rfl (aP (aO (K:=K) rfl) (pv 5) (pv 8) (λ_ _=>rfl)) (aj (pv 9) au))))))))))
   (aJ (aZ (dI (aj (pv 4) (aj (pv 5) au)))))))),?_⟩
  show Ip _ _ _ [some (.ref r),some (.ref W.o),some (.int S.hs.length),some (.int m),none,none,none,none,none,none] H;refine⟨by show 0<=sizeLine;exact Nat.zero_le _,λa ha=>?_⟩;have s1:=aH (o:=HO.lst []) ha;have ea:(upd H a (.lst [])) a=some (.lst []):=ao;have T1:=T.claim (t:=[j]) s1 ha ⟨_,ea⟩;have w1:=w.mv (Mv.claim (p:=a) (t:=[j]) s1 ha) T1.un;have f1:rM i I H (aQ I a [j]) (upd H a (.lst [])):= .claim s1 ha;have ta:aQ I a [j] a=[j]:=bC;generalize upd H a (.lst [])=H1 at s1 ea T1 w1 f1 ⊢;generalize aQ I a [j]=a9 at T1 w1 f1 ta;refine⟨_,Z,_,Z,LZ,LZ,λD hD=>?_⟩;rw[abf];show iu _ _ _ _ _ _ [none] H1;have sD:=aH (o:=HO.lst []) hD;have eD:(upd H1 D (.lst [])) D=some (.lst []):=ao;have TD:=T1.claim (t:=[j]) sD hD ⟨_,eD⟩;have wD:=w1.mv (Mv.claim (p:=D) (t:=[j]) sD hD) TD.un;have fD:rM i I H (aQ a9 D [j]) (upd H1 D (.lst [])):=f1.trans (.claim sD hD);have aD:a≠D:=aB ea hD;have D0:H D=none:=f1.dom D hD;refine iQ (lo:=0) (n:=S.hs.length) (λn σ Hn=>∃(v:Option V) (a2:Tg) (ps:List Addr),σ=[v]/\Ss ak aq i j I H a2 Hn r W S a D n ps) ⟨_,_,[],Z,⟨wD,TD,sD _ _ ea,(aR aD).trans ta,eD,bC,Z,aD,λk p h=>by simp at h,λk G p h=>by simp at h,fD,λp h=>by simp at h⟩⟩ ?_ ?_
  .rintro n σ Hn hn ⟨v,a2,ps,rfl,X⟩
   dsimp only[bV,uO];rw[adq rfl];refine⟨by show 0<=sizeLine;exact Nat.zero_le _,λq hq=>?_⟩;have qD:D≠q:=aB X.et hq;refine⟨_,by rw[aF qD];exact X.et,?_,_,_,_,Z,X.more j0 ji D0 hq⟩;rw[aak,X.nt,sizeLine_eq];lia
  rintro σ H3 ⟨v,a8,C,rfl,X⟩;have p0:=X.p0;have B:=X.done j0 ji;clear X;refine⟨_,Z,(m:Int),Z,LZ,LZ,?_⟩;rw[abf]
  have a5:∀(x6 x7 x8 x9:Option V)(b:Tg)(Y:Hp)(l:List Tc)(S1:dD),Ru ak aq i j I H b Y r W S S1 l a D C->l.length<=m->Yd (abh (jq (d_ 4) (jq (d_ 5) wJ))) {nx:=λx H'=>Q V.non H',rt:=Q} [some (.ref r),some (.ref W.o),some (.int S.hs.length),some (.int m),some (.ref a),some (.ref D),x6,x7,x8,x9] Y:=λx6 x7 x8 x9 b Y l S1 B hl=>by refine⟨_,Z,_,Z,sZ2,λt ht=>?_⟩;have s5:=aH (o:=HO.tup [V.ref a,V.ref D]) ht;exact k t a D C l S1 b _ ao (B.mv (B.w.same s5) (B.T.same s5) (.same s5)) hl
  refine gZ (λn σ Y=>∃(x6 x7 x8 x9:Option V) (b:Tg) (l:List Tc) (S1:dD),σ=[some (.ref r),some (.ref W.o),some (.int S.hs.length),some (.int m),some (.ref a),some (.ref D),x6,x7,x8,x9]/\Ru ak aq i j I H b Y r W S S1 l a D C/\l.length<=n) ⟨_,_,_,_,a8,[],S,Z,B,aav _⟩ ?_ ?_
  .rintro n σ Y hn ⟨x6,x7,x8,x9,b,l,S1,rfl,B,hl⟩
   have a0:=(xq B.R).1;have w4:=B.w;rw[←a0];refine⟨_,Z,_,Z,LZ,LZ,λDw O=>?_⟩;rw[abf];show iu _ _ _ _ _ _ (none::[some (.ref W.o)]) Y;refine adS w4 LZ O λH5 s5 e5=>?_;have T5:=B.T.claim (t:=[j+i+1]) s5 O ⟨_,e5⟩;have w5:=w4.mv (Mv.claim (p:=Dw) (t:=[j+i+1]) s5 O) T5.un;have a4:=B.mv w5 T5 (.claim s5 O);have a3:aQ b Dw [j+i+1] Dw=[j+i+1]:=bC;generalize aQ b Dw [j+i+1]=d at T5 w5 a4 a3
   have wm:(qu S1.hs).length<=8:=by have:=List.length_filter_le (jN S1.hs) (List.range S1.hs.length);unfold qu;rw[List.length_range] at this;lia
   refine⟨_,Z,by show 0<=sizeLine;exact Nat.zero_le _,λp6 b4=>?_⟩;have s6:=aH (o:=HO.lst []) b4;have e6:(upd H5 p6 (.lst [])) p6=some (.lst []):=ao;have U:=a4.mv (w5.same s6) (T5.same s6) (.same s6);have R:=s6 _ _ e5;generalize upd H5 p6 (.lst [])=H6 at s6 e6 U R ⊢;have c1:H6 Dw=some (.lst (((qu S1.hs).map λk:Nat=>(k:Int)).map V.int)):=by rw[R,acr];rfl
   refine⟨_,_,bZ c1,bZ (ns:=[]) e6,shaped_ints _,shaped_ints [],_,Z,?_⟩;rw[adp aaT,jR PyData.int pR];refine cV (λ_=>?_) (λne=>?_)
   .have:=a5 (some (.int (0+(n:Int)))) (some (.ref Dw)) x8 x9 d H6 l S1 U LZ
    rw[←a0] at this;exact this
   have wn:0<(qu S1.hs).length:=by
    cases q:qu S1.hs with
    | nil=>exact adt (by rw[q];rfl) ne
    | cons _ _=>simp
   unfold Ir;dsimp only;refine⟨_,Z,_,Z,_,Z,Dw,_,Z,.inl (bF.of R),?_⟩;rw[aak];refine⟨r,_,Z,U.T.R,LZ,LZ,λz H7 z0 z1 R7 k7=>?_⟩;obtain⟨z,rfl⟩:=adh z0;have T7:=U.T.draw k7 R7;have w7:=U.w.mv (U.T.kr k7) T7.un;have e7:=U.T.keep k7 R (by rw[a3];simp);have d7:=Dr.draw U.T k7
   have f7:rM i d H6 d H7:=⟨λx o e nn _=>d7.k _ _ e nn,λ_ _ _=>rfl,d7.t,λx e=>by
    by_cases q:x=r
    .obtain⟨g',c',_,_,_,_,er,_⟩:=R7
     rw[q,er] at e;cases e
    .cases q':H6 x with
     | none=>rfl
     | some o=>rw[d7.p _ _ q' q] at e;cases e⟩
   have y:=U.mv w7 T7 f7;have zl:z<(qu S1.hs).length:=by lia
   obtain⟨kk,ek⟩:∃kk,(qu S1.hs)[z]?=some kk:=⟨_,aal zl⟩;refine⟨Dw,_,z,.int kk,Z,Z,bF.of e7,cj (by rw[aap,ek];rfl),?_⟩;obtain⟨hs,a6,b0⟩:=DQ ek;have kl:=(aam.mp a6).1;have b3:ux (kk:Int) S1.hs.length:=⟨LZ,LZ⟩
   have QB:S1.ts.length<=10000:=by rw[Gq B.R,aa1,aak];lia
   refine⟨_,Z,W.o,W.dx,_,Z,w7.o,Z,_,Z,i,d,W,S1,_,Z,w7,QB,λG s' r' t H8 q1 es ws er tr tf tk wk L=>?_,λz=>adt b3 z,λG s' q1 es nw=>?_⟩
   rotate_left
   .have:G=kk:=by lia
    subst this;rw[a6] at es;cases es;exact adt b0 nw
   have:G=kk:=by lia
   subst this;obtain⟨c,M⟩:∃c:Tc,c=⟨G,r',Bf S1.ns r',Ng s'.bs r'⟩:=⟨_,Z⟩;have J:c.k=G:=by rw[M]
   have c0:Qm S1 c:=by rw[M];exact⟨s',es,ws,er,Z,Z⟩
   have et:H8 t=some (.tup (tcV c)):=by rw[tk,M];rfl
   rw[←J] at wk;obtain⟨refs,b6,b9⟩:=y.ea;have hd:∀x,d x=[j]->(d x).head?≠some i:=λx e=>by rw[e];intro q;exact ji (aaY q)
   have Xz:=L.keep _ _ b6 (hd _ y.ta);have rl:refs.length=l.length:=by rw[b9.length,aak,aak]
   refine⟨_,Z,.inl ⟨Z,_,bF.of Xz⟩,_,Z,_,Z,_,_,_,_,Z,Z,cC.of et,Z,_,Z,_,_,_,_,Z,Z,cC.of et,Z,sZ3,λu hu=>?_⟩;have su:=aH (o:=HO.tup [V.int G,V.str (tO c.r),V.int (je c.r)]) hu;have eu:(upd H8 u (.tup [V.int G,V.str (tO c.r),V.int (je c.r)])) u=some (.tup [.int (gj c).1,.str (gj c).2.1,.int (gj c).2.2]):=by rw[ao];unfold gj;rw[J]
   generalize upd H8 u (.tup [V.int G,V.str (tO c.r),V.int (je c.r)])=H9 at su eu ⊢;have a7:=su _ _ Xz;refine⟨_,_,_,Z,Z,a7,(by rw[rl,sizeLine_eq];lia),?_⟩;have b2:c.k<C.length:=by rw[B.nt,←a0,J];exact kl
   obtain⟨p,hp⟩:∃p,C[c.k]?=some p:=⟨_,aal b2⟩;obtain⟨tp,pt,pa,us,b5,b8⟩:=y.ps _ _ hp;have a1:(upd H9 a (.lst (refs++[.ref u]))) p=some (.lst us):=by rw[aF pa];exact su _ _ (L.keep _ _ b5 (hd _ tp))
   have b7:(upd H9 a (.lst (refs++[.ref u]))) D=some (.lst (C.map V.ref)):=by rw[aF (Ne.symm y.ne)];exact su _ _ (L.keep _ _ y.et (hd _ y.tt))
   have ul:us.length<=l.length:=by rw[b8.length,aak];exact List.length_filter_le _ _
   refine⟨_,Z,_,Z,D,_,G,.ref p,Z,Z,bF.of b7,cj (by rw[aap,←J,hp];rfl),.inl ⟨Z,_,bF.of a1⟩,_,Z,p,us,.ref t,Z,Z,a1,(by rw[sizeLine_eq];lia),?_⟩;refine⟨_,_,_,_,d,l++[c],cG S1 c.k,Z,y.add ha p0 c0 (by rw[M];exact tr) wk L su (su _ _ et) eu a7 hp a1,by simp;lia⟩
  .rintro σ Y ⟨x6,x7,x8,x9,b,l,S1,rfl,B,hl⟩
   exact a5 _ _ _ _ _ _ _ _ B hl
theorem JB{r:Rw}(t:touch r=true):isLoad r=true↔tO r = "load" :=by cases r<;>first |(exact⟨λ_=>rfl,λ_=>rfl⟩)|(refine⟨λz=>?_,λz=>?_⟩<;>first |(cases z;done)|(exact adt z DZ)|(cases t;done))
def Iz{x y:Tc}(b:touch x.r=true)(ty:touch y.r=true):stepT x y↔(gj x).1=(gj y).1\/SJ (gj x) (gj y)=true:=by
 rw[O8];unfold stepT apart gj;dsimp only;rw[JB b,JB ty];constructor
 .rintro(h|h)
  .exact .inl (by rw[h])
  .by_cases z:(x.k:Int)=y.k
   .exact .inl z
   .refine .inr ⟨z,?_,?_⟩
    .have:je x.r=je y.r:=Classical.byContradiction λq=>h (.inl q)
     rw[this]
    .by_cases q:tO x.r = "load"
     .exact .inr λd=>h (.inr ⟨q,d⟩)
     .exact .inl q
 .rintro(h|⟨n,c,w⟩)
  .exact .inl LZ
  .refine .inr ?_
   rintro(z|⟨z,a⟩)
   .exact z (by have:=c;first |lia|exact Int.ofNat.inj c)
   .rcases w with w|w
    .exact w z
    .exact w a
def yF.cl(f:∀x∈l,touch x.r=true){o:List Nat}(h:yF l o):∀a b,a<b->YW (l.map gj) a b\/VR (l.map gj) a b->b∈o->a∈o:=by
 have gt:∀{m:Nat}{u:lY},(l.map gj)[m]?=some u -> ∃x,l[m]?=some x/\u=gj x:=fun {m u} e=>by
  rw[aap] at e;cases q:l[m]? with
  | none=>rw[q] at e;cases e
  | some x=>rw[q] at e;exact⟨x,Z,(aaY e).symm⟩
 induction h with
 | nil=>intro a b _ _ m;cases m
 | @snoc o c x h e n q j=>
   intro a b lt s m;rcases abA.mp m with m|m
   .exact abA.mpr (.inl (j a b lt s m))
   .have:b=c:=by simpa using m
    subst this;refine abA.mpr (.inl ?_)
    have:∃y,l[a]?=some y/\((gj y).1=(gj x).1\/SJ (gj y) (gj x)=true):=by
     rcases s with ⟨u,v,i,g,s⟩|⟨u,v,i,g,s⟩<;>obtain⟨y,d,rfl⟩:=gt i<;>obtain⟨k,ex,rfl⟩:=gt g<;>rw[e] at ex<;>cases ex
     .exact⟨y,d,.inl s⟩
     .exact⟨y,d,.inr s⟩
    obtain⟨y,d,s⟩:=this;exact q a y lt d ((Iz (f _ (aaN d)) (f _ (aaN e))).mpr s)
def yF.add(d:∀x∈l,touch x.r=true){o:List Nat}(h:yF l o){a:Nat}{x:Tc}(e:l[a]?=some x)(n:a∉o)(own:∀m y,m<a->l[m]?=some y->y.k=x.k->m∈o)(c:∀m,tQ (l.map gj) few m a->m∈o):yF l (o++[a]):=by
 refine .snoc h e n λm y lt f s=>?_;have k:∀{m:Nat}{y:Tc},l[m]?=some y->(l.map gj)[m]?=some (gj y):=fun {m y} e=>by rw[aap,e];rfl
 rcases(Iz (d _ (aaN f)) (d _ (aaN e))).mp s with s|s
 .exact own m y lt f (by unfold gj at s;dsimp only at s;lia)
 .refine mz (own:=YW (l.map gj)) (meet:=VR (l.map gj)) (few:=few=true) (D:=λm=>m∈o) (h.cl d) (j:=a) (λi li ⟨u,v,b,g,s⟩=>?_) (λi z=>c i z) (a-m) m lt (aav _) ⟨_,_,k f,k e,s⟩
  rw[aap] at b g;rw[e] at g;cases g;cases q:l[i]? with
  | none=>rw[q] at b;cases b
  | some p=>
    rw[q] at b;cases b;exact own i p li q (by unfold gj at s;dsimp only at s;lia)
def afp(a b c d:V):lQ [a,b,c,d] none (some 2)=[a,b]:=Cj _ 2
def afo(a b c d:V):lQ [a,b,c,d] (some 2) none=[c,d]:=JV _ 2
def abS{α:Type}(xs:List α)(h:xs.length=4):¬(HT.jo xs.length 0 none=0/\HT.jo xs.length xs.length (some 2)=xs.length):=by rw[h];decide
def abR{α:Type}(xs:List α)(h:xs.length=4):¬(HT.jo xs.length 0 (some 2)=0/\HT.jo xs.length xs.length none=xs.length):=by rw[h];decide
def nt(H H':Hp):Hp:=λx=>match H' x with
 | some (.tup xs)=>some (.tup xs)
 | o=>match H x with
   | none=>o
   | some _=>none
def ab_{x:Addr}(e:H' x=some (.tup xs)):nt H H' x=some (.tup xs):=by unfold nt;rw[e]
def aaC{x:Addr}{o:HO}(n:H x=none)(e:H' x=some o):nt H H' x=some o:=by unfold nt;rw[e,n];cases o<;>rfl
def acd{x:Addr}{o:HO}(e:nt H H' x=some o):H' x=some o/\((∃xs,o=.tup xs)\/H x=none):=by
 unfold nt at e;split at e
 .rename_i xs q
  cases e;exact⟨q,.inl ⟨_,Z⟩⟩
 .cases q:H x with
  | none=>rw[q] at e;exact⟨e,.inr rfl⟩
  | some u=>rw[q] at e;cases e
def qd(τ:Tg)(H:Hp):Hp:=λx=>match H x with
 | some (.tup xs)=>some (.tup xs)
 | o=>if τ x=[0] then o else none
def qx{x:Addr}(e:H x=some (.tup xs)):qd τ H x=some (.tup xs):=by unfold qd;rw[e]
def uP{x:Addr}{o:HO}(t:τ x=[0])(e:H x=some o):qd τ H x=some o:=by unfold qd;rw[e];cases o<;>simp only[t,if_true]<;>rfl
def z_{x:Addr}{o:HO}(e:qd τ H x=some o):H x=some o/\((∃xs,o=.tup xs)\/τ x=[0]):=by
 unfold qd at e;split at e
 .rename_i xs q
  cases e;exact⟨q,.inl ⟨_,Z⟩⟩
 .by_cases t:τ x=[0]
  .rw[adq t] at e;exact⟨e,.inr t⟩
  .rw[adp t] at e;cases e
def rQ(τ:Tg)(H:Hp):Same (qd τ H) H:=λx o e=>(z_ e).1
def oY(q:Mv i τ H τ' H'):Same (qd τ H) (qd τ' H'):=λx o e=>by
 obtain⟨e,⟨a,rfl⟩|t⟩:=z_ e
 .exact qx (q.tup _ _ e)
 .have:=q.keep x o e (.inl t)
  exact uP (this.2.trans t) this.1
def iV(q:k_ i τ H H')(a:i≠0):Same (qd τ H) (qd τ H'):=λx o e=>by
 obtain⟨e,⟨b,rfl⟩|t⟩:=z_ e
 .exact qx (q.tup _ _ e)
 .exact uP t (q.keep x o e (by rw[t];intro z;exact a (aaY z).symm))
def Sx(τ:Tg)(H H':Hp):Tg:=λx=>match H x with
 | some _=>τ x
 | none=>match H' x with
   | some _=>[0]
   | none=>τ x
def Yb{x:Addr}{o:HO}(e:H x=some o):Sx τ H H' x=τ x:=by unfold Sx;rw[e]
def Yc{x:Addr}{o:HO}(n:H x=none)(e:H' x=some o):Sx τ H H' x=[0]:=by unfold Sx;rw[n];simp only[e]
def abe(k:Same H H')(u:rF τ H):rF (Sx τ H H') H':=λx e=>by have n:=k.free e;unfold Sx;rw[n];simp only[e];exact u x n
def ab':Same (nt H H') (qd (Sx τ H H') H'):=λx o e=>by
 obtain⟨e,⟨a,rfl⟩|n⟩:=acd e
 .exact qx e
 .exact uP (Yc n e) e
abbrev Qk:=Int×Int
def pD(x:Qk):PyData:= .tuple [.int x.1,.int x.2]
def qY(x:Qk):CV (pD x)=true:=Z
def PX{t:Addr}{x:Qk}(h:H t=some (.tup [.int x.1,.int x.2])):Dat H (.ref t) (pD x):=by simp only[pD,Dat];exact⟨t,_,Z,h,by simp only[aV,Dat,and_self]⟩
def JT{x:Qk}(h:Dat H v (pD x)):∃t,v=.ref t/\H t=some (.tup [.int x.1,.int x.2]):=by
 simp only[pD,Dat] at h;obtain⟨t,c,e,q,d⟩:=h
 match c,d with
 | [a,b],d=>
   simp only[aV,Dat,and_true] at d;obtain⟨rfl,rfl⟩:=d;exact⟨t,e,q⟩
 | [],d=>simp only[aV] at d
 | [_],d=>simp only[aV,and_false] at d
 | _::_::_::_,d=>simp only[aV,and_false] at d
def rG(H:Hp)(a:Addr)(ps:List Qk):Prop:=∃vs,H a=some (.lst vs)/\aV H vs (ps.map pD)
def rG.same{ws:List Qk}(h:rG H a ws)(k:Same H H'):rG H' a ws:=by obtain⟨b,e,d⟩:=h;exact⟨b,k _ _ e,aV.keep k.tups _ (cI _ qY ws) d⟩
def YG{ps:List Qk}(d:aV H vs (ps.map pD))(e:vs[i]?=some v):∃x t,ps[i]?=some x/\v=.ref t/\H t=some (.tup [.int x.1,.int x.2]):=by
 obtain⟨q,eq,b⟩:=d.get e;rw[aap] at eq;cases ex:ps[i]? with
 | none=>rw[ex] at eq;cases eq
 | some x=>
   rw[ex] at eq;cases eq;obtain⟨t,rfl,a⟩:=JT b;exact⟨x,t,Z,Z,a⟩
def ft(x:Nt):Qk:=(x.1,x.2.1)
def cR(ns:List Nt)(o m:Int):List Qk:=(ns.filter λx=>decide (x.2.2.1=o)&&decide (x.2.2.2=m)).map ft
def Ds(ns:List Nt)(x:Nt)(o m:Int):cR (ns++[x]) o m=cR ns o m++(if x.2.2.1=o/\x.2.2.2=m then [ft x] else []):=by
 unfold cR;rw[ado,abd];congr 1
 by_cases e:x.2.2.1=o/\x.2.2.2=m
 .simp[e.1,e.2]
 .rw[adp e]
  by_cases a:x.2.2.1=o
  .have b:¬x.2.2.2=m:=λz=>e ⟨a,z⟩
   simp[b]
  .simp[a]
def lX(H:Hp)(f:Addr)(ns:List Nt):Prop:=∃kvs,H f=some (.dT kvs) /\ ∀o m:Int,(gq kvs [Sum.inl o,Sum.inl m]=none/\cR ns o m=[]) \/ ∃l,gq kvs [Sum.inl o,Sum.inl m]=some (.ref l)/\rG H l (cR ns o m)
theorem lX.same{H H':Hp}{f:Addr}{ns:List Nt}(h:lX H f ns)(k:Same H H'):lX H' f ns:=by
 obtain⟨a,e,q⟩:=h;refine⟨a,k _ _ e,λo m=>?_⟩;rcases q o m with z|⟨l,c,b⟩
 .exact .inl z
 .exact .inr ⟨l,c,b.same k⟩
inductive Af(K:zzy)(vs:List V)(H:Hp)(Q:VK)(dY:XK):Prop|m:∀(t c a:Addr)(cs:List Int)(ns:List Nt),vs=[.ref t]->RecAt H t c a cs ns->CG cs ns->(∀(f:Addr)(H':Hp),H f=none->lX (nt H H') f ns->Same H H'->Q (.ref f) H')->Af K vs H Q dY
theorem QW(F:fU K "firsts_of" "firsts_of" qG f fd):bN P w K mg base ig 1 f fd ["record"] (Af K):=by
 refine F.ok o8 (λvs H Q E h=>?_) (λc0 A b2 s H vs Q E hr h=>?_)
 .obtain⟨t,c,a,cs,r,rfl,_⟩:=h
  rfl
 .obtain⟨t,c,a,cs,r,rfl,R,ok,k⟩:=h
  have hu:=aaK hr;obtain⟨ht,hc,Sy,ha,dn⟩:=id R;have b3:Sy.length=r.length:=by rw[dn.length,aak]
  have nl:=ok.2.1
  refine⟨_,(aA (bH (i:=1) o8.nd rfl (Or.inl rfl) Vg)
   (aA (iI PassesOwn.never rfl (cQ (K:=K) rfl (aP (aX (K:=K) rfl) (pv 0) aG (λ_ _=>rfl))) (bI (i:=2) o8.nd rfl (Or.inl rfl))
   (aJ (cL (fW (K:=K) rfl (Vf hu (pv 1) (jQ (Od (K:=K) rfl) (pv 2) (mO aG) mQ) (cP au) ⟨Z,Z,Z,Z⟩) (aj (jQ (Od (K:=K) rfl) (pv 2) mQ (mO aG)) au)))))
   (aJ (aZ (pv 1))))),?_⟩
  intro f hf;have s1:=aH (o:=HO.dT []) hf;refine⟨_,Z,_,_,_,_,Z,Z,cC.of (s1 _ _ ht),Z,a,Z,⟨_,bF.of (s1 _ _ ha)⟩,?_⟩
  refine vO (K:=K) (a:=a) (xs:=Sy) (λi σ H2=>∃(x:Option V) (d:List (List Key×V)),σ=[some (.ref t),some (.ref f),x]/\Same H H2/\H2 f=some (.dT d)/\d.length<=i /\(∀o m:Int,(gq d [Sum.inl o,Sum.inl m]=none/\cR (r.take i) o m=[]) \/ ∃l,gq d [Sum.inl o,Sum.inl m]=some (.ref l)/\rG H2 l (cR (r.take i) o m)/\H l=none/\l≠f) /\(∀(o m u B:Int) l,gq d [Sum.inl o,Sum.inl m]=some (.ref l)->gq d [Sum.inl u,Sum.inl B]=some (.ref l)->o=u/\m=B))
   ⟨none,[],Z,s1,ao,Nat.zero_le _,λo m=> .inl ⟨Z,Z⟩,λo m u B l h=>by cases h⟩ (λi σ H2 _ ⟨_,_,_,L,_⟩=>bF.of (L _ _ ha)) ?_ ?_
  .rintro i v σ H2 hi ⟨x0,d,rfl,L,hF,kl,g,inj⟩
   obtain⟨x,w,ex,rfl,hx⟩:=sJ dn hi;have il:i<Sy.length:=(aam.mp hi).1;have a5:=L _ _ hx;have tk:r.take (i+1)=r.take i++[x]:=by rw[acq,ex];rfl
   refine JQ (λv O=>∃l I,v=.ref l/\Same H O/\(∀a xs,H2 a=some (HO.tup xs)->O a=some (HO.tup xs))/\O f=some (.dT I)/\I.length<=i+1/\gq I [Sum.inl x.2.2.1,Sum.inl x.2.2.2]=some (.ref l) /\(∀o m:Int,(gq I [Sum.inl o,Sum.inl m]=none/\cR (r.take i) o m=[]) \/ ∃l,gq I [Sum.inl o,Sum.inl m]=some (.ref l)/\rG O l (cR (r.take i) o m)/\H l=none/\l≠f) /\(∀(o m u B:Int) l,gq I [Sum.inl o,Sum.inl m]=some (.ref l)->gq I [Sum.inl u,Sum.inl B]=some (.ref l)->o=u/\m=B)) (λQ' kQ=>?_) ?_
   .refine⟨_,Z,f,Z,.inr ⟨_,.inl hF⟩,_,Z,_,Z,_,_,Z,cC.of a5,abR _ rfl,λp1 b7=>?_⟩
    have c2:lQ (nV x) (some 2) none=[.int x.2.2.1,.int x.2.2.2]:=afo ..;rw[c2];have S:=aH (o:=HO.tup [V.int x.2.2.1,V.int x.2.2.2]) b7;refine⟨sZ0,λe he=>?_⟩;have a0:=aH (o:=HO.lst []) he;have n:=S.trans a0;refine⟨d,[Sum.inl x.2.2.1,Sum.inl x.2.2.2],p1,n _ _ hF,Z,a0 _ _ ao,by rw[sizeLine_eq];lia,λv hv=>?_,λhn=>?_⟩
    .rcases g x.2.2.1 x.2.2.2 with z|⟨l,e1,e2,e3,e4⟩
     .rw[z.1] at hv;cases hv
     .rw[e1] at hv
      cases hv;refine kQ _ _ ⟨l,d,Z,L.trans n,n.tups,n _ _ hF,LZ,e1,λo m=>?_,inj⟩;rcases g o m with z|⟨M,C,X,N,G⟩
      .exact .inl z
      .exact .inr ⟨M,C,X.same n,N,G⟩
    .have kF:Kp f (upd (upd H2 p1 (.tup [V.int x.2.2.1,V.int x.2.2.2])) e (.lst [])) (upd (upd (upd H2 p1 (.tup [V.int x.2.2.1,V.int x.2.2.2])) e (.lst [])) f (.dT (putK d [Sum.inl x.2.2.1,Sum.inl x.2.2.2] (.ref e)))):=Kp.set
     have a4:e≠f:=λz=>by rw[←z] at hF;rw[S _ _ hF] at he;cases he
     have b8:(upd (upd H2 p1 (.tup [V.int x.2.2.1,V.int x.2.2.2])) e (.lst [])) f=some (.dT d):=n _ _ hF;have a6:H2 e=none:=S.free he;have tF:∀a xs,(upd (upd H2 p1 (.tup [V.int x.2.2.1,V.int x.2.2.2])) e (.lst [])) a=some (HO.tup xs)->(upd (upd (upd H2 p1 (.tup [V.int x.2.2.1,V.int x.2.2.2])) e (.lst [])) f (.dT (putK d [Sum.inl x.2.2.1,Sum.inl x.2.2.2] (.ref e)))) a=some (HO.tup xs):=λa xs h=>kF _ _ h (dG h b8 ZN)
     have p:∀o m:Int,([Sum.inl o,Sum.inl m]:List Key)=[Sum.inl x.2.2.1,Sum.inl x.2.2.2]↔o=x.2.2.1/\m=x.2.2.2:=λo m=>by
      constructor
      .intro z;injection z with z1 z2;injection z2 with z2 _;exact⟨Sum.inl.inj z1,Sum.inl.inj z2⟩
      .rintro⟨rfl,rfl⟩;rfl
     refine kQ _ _ ⟨e,_,Z,λb o eb=>kF _ _ ((L.trans n) _ _ eb) (aB eb hf),λa xs h=>tF _ _ (n.tups _ _ h),ao,?_,by rw[zW,adq rfl],λo m=>?_,λo m u B l h1 W=>?_⟩
     .exact adl (yq ..) LZ
     .rw[zW]
      by_cases q:o=x.2.2.1/\m=x.2.2.2
      .rw[adq ((p o m).mpr q)]
       obtain⟨rfl,rfl⟩:=q;refine .inr ⟨e,Z,?_,L.free a6,a4⟩;rcases g x.2.2.1 x.2.2.2 with z|⟨l,e1,_⟩
       .rw[z.2]
        exact⟨[],kF _ _ ao a4,by simp[aV]⟩
       .rw[e1] at hn;cases hn
      .rw[adp λz=>q ((p o m).mp z)]
       rcases g o m with z|⟨M,C,X,N,G⟩
       .exact .inl z
       .refine .inr ⟨M,C,?_,N,G⟩
        obtain⟨J,g1,g2⟩:=X.same n;exact⟨J,kF _ _ g1 G,aV.keep tF _ (cI _ qY _) g2⟩
     .rw[zW] at h1 W
      have old:∀o m:Int,gq d [Sum.inl o,Sum.inl m]=some (V.ref e)->False:=λo m h=>by
       rcases g o m with z|⟨M,C,⟨J,g1,_⟩,N,G⟩
       .rw[z.1] at h;cases h
       .rw[C] at h
        cases h;rw[a6] at g1;cases g1
      by_cases q:o=x.2.2.1/\m=x.2.2.2
      .rw[adq ((p o m).mpr q)] at h1
       cases h1
       by_cases Y:u=x.2.2.1/\B=x.2.2.2
       .exact⟨q.1.trans Y.1.symm,q.2.trans Y.2.symm⟩
       .rw[adp λz=>Y ((p u B).mp z)] at W
        exact(old _ _ W).elim
      .rw[adp λz=>q ((p o m).mp z)] at h1
       by_cases Y:u=x.2.2.1/\B=x.2.2.2
       .rw[adq ((p u B).mpr Y)] at W
        cases W;exact(old _ _ h1).elim
       .rw[adp λz=>Y ((p u B).mp z)] at W
        exact inj _ _ _ _ _ h1 W
   .rintro v O ⟨l,I,rfl,b1,b0,b9,b5,j,a9,a8⟩
    obtain⟨z0,PL,D,a3⟩:∃z0:True,rG O l (cR (r.take i) x.2.2.1 x.2.2.2)/\H l=none/\l≠f:=by
     rcases a9 x.2.2.1 x.2.2.2 with z|⟨M,C,X,N,G⟩
     .rw[z.1] at j;cases j
     .rw[C] at j
      cases j;exact⟨trivial,X,N,G⟩
    obtain⟨J,U,a7⟩:=id PL;refine⟨.inl ⟨Z,_,bF.of U⟩,_,Z,_,Z,_,_,Z,cC.of (b0 _ _ a5),abS _ rfl,λp2 b6=>?_⟩;have c1:lQ (nV x) none (some 2)=[.int x.1,.int x.2.1]:=afp ..;rw[c1];have T:=aH (o:=HO.tup [V.int x.1,V.int x.2.1]) b6
    have wl:J.length<=r.length:=by
     rw[a7.length,aak];unfold cR;rw[aak];have a1:=List.length_filter_le (λy:Nt=>decide (y.2.2.1=x.2.2.1)&&decide (y.2.2.2=x.2.2.2)) (r.take i);have a2:(r.take i).length<=r.length:=by rw[acH];lia
     lia
    refine⟨l,J,_,Z,Z,T _ _ U,by rw[sizeLine_eq];lia,?_⟩;have kL:Kp l (upd O p2 (.tup [V.int x.1,V.int x.2.1])) (upd (upd O p2 (.tup [V.int x.1,V.int x.2.1])) l (.lst (J++[V.ref p2]))):=Kp.set;have tL:=kL.tups (T _ _ U);refine⟨_,I,Z,λb o eb=>kL _ _ (T _ _ (b1 _ _ eb)) (aB eb D),kL _ _ (T _ _ b9) a3.symm,b5,λo m=>?_,a8⟩;rw[tk,Ds]
    by_cases q:x.2.2.1=o/\x.2.2.2=m
    .obtain⟨rfl,rfl⟩:=q
     rw[adq ⟨Z,Z⟩];refine .inr ⟨l,j,⟨_,ao,?_⟩,D,a3⟩;rw[abd];exact aV.append (aV.keep (λa xs h=>tL _ _ (T.tups _ _ h)) _ (cI _ qY _) a7) (aaS (PX (x:=ft x) (tL _ _ ao)))
    .rw[adp q,List.append_nil]
     rcases a9 o m with z|⟨M,C,X,N,G⟩
     .exact .inl z
     .have b4:M≠l:=λz=>by subst z;obtain⟨e1,e2⟩:=a8 _ _ _ _ _ C j;exact q ⟨e1.symm,e2.symm⟩
      obtain⟨us,g1,g2⟩:=X;exact .inr ⟨M,C,⟨us,kL _ _ (T _ _ g1) b4,aV.keep (λa xs h=>tL _ _ (T.tups _ _ h)) _ (cI _ qY _) g2⟩,N,G⟩
  .rintro σ H2 ⟨x0,d,rfl,L,hF,kl,g,inj⟩
   rw[b3,acg] at g;refine⟨_,Z,k f H2 hf ⟨d,aaC hf hF,λo m=>?_⟩ L⟩;rcases g o m with z|⟨l,C,⟨J,g1,g2⟩,D,_⟩
   .exact .inl z
   .exact .inr ⟨l,C,J,aaC D g1,aV.keep (λa xs e=>ab_ e) _ (cI _ qY _) g2⟩
inductive Ad(K:zzy)(vs:List V)(H:Hp)(Q:VK)(dY:XK):Prop|m:∀(t:Addr)(x:Nt),vs=[.ref t]->H t=some (.tup (nV x))->(∀H',Same H H'->Q (.bl (!decide (x.1=x.2.2.1))) H')->Ad K vs H Q dY
theorem Lf(F:fU K "is_note" "is_note" wY f fd)(n:FnAt P w K mg base 1 "is_whole" ["value"] (Yk K))(d:lZ mg):bN P w K mg base ig 2 f fd ["value"] (Ad K):=by
 refine F.ok KZ (λm H Q E h=>?_) (λy A g s H m Q E j h=>?_)
 .obtain⟨t,x,rfl,_⟩:=h
  rfl
 .obtain⟨t,x,rfl,a,k⟩:=h
  have B:=j.units
  refine⟨_,(aA (bY (PW.pt (mK (fH (cX (aU (cT (K:=K) (cv:= .ty "tuple") (c:= .type "tuple") rfl rfl) oZR d.bM bL (aj (pv 0) (aj (fO (v:= .ty "tuple") oZR d.zA vY rfl) au))))) (lJ (bD oG (aU (aW (K:=K) rfl) oZR d.dR cH (aj (pv 0) au)) aG (bh _))))) (aJ (aZ j_)) bG)
   (aJ (aZ (jA (aU (gA (K:=K) rfl rfl) oZR d.Kf Cq (aj (dB rfl (N:=["number"]) (own:=["number"]) (caps:=[]) (bA.of (by kernel_rfl)) (YJ (K:=K) rfl (pv 0)) (λ_ _ _ _=>(bI (i:=0) (show List.Nodup (["number"]:List Str) by decide +kernel) rfl (Or.inl rfl))) (λ_ _ _ _=>cO) (λ_ _ _ _=>(bK n (j.mono DZ) oZR (aj (pv 0) au)))) au)) (iZ (cU oG (aP (aX (K:=K) rfl) (pv 0) aG (λ_ _=>rfl)) (aP (aX (K:=K) rfl) (pv 0) aG (λ_ _=>rfl)) (bh _))))))),?_⟩
  refine⟨_,Z,_,_,true,Z,.tup a,iG K,true,Z,?_⟩;refine cW ?_;refine⟨_,Z,t,_,Z,.inr (cC.of a),Z,_,Z,?_⟩;refine vI oZR ?_;refine⟨_,Z,t,Z,⟨_,cC.of a⟩,λD r=>?_⟩;refine RQ (K:=K) (λi=>some (.bl true)) r a (by show 4<=100000;decide) (λi v H2 G F p b C o=>?_) (λH2 b u=>?_)
  .obtain⟨z,rfl⟩:∃z,v=V.int z:=by have l:=aaN p;simp only[nV,List.mem_cons,List.not_mem_nil,or_false] at l;rcases l with rfl|rfl|rfl|rfl<;>exact⟨_,rfl⟩
   exact⟨_,Z,z,Z,o _ H2 (Same.refl _) rfl⟩
  .refine⟨D,[true,true,true,true],Z,bF.of u,true,Z,?_⟩
   refine eO ?_;refine⟨_,Z,_,_,_,_,Z,Z,cC.of (b _ _ a),Z,_,Z,_,_,_,_,Z,Z,cC.of (b _ _ a),Z,Z,?_⟩
   have e:(!decide (V.int x.1=V.int x.2.2.1))=(!decide (x.1=x.2.2.1)):=by
    by_cases q:x.1=x.2.2.1
    .simp[q]
    .simp[q]
   show Q (.bl (!decide (V.int x.1=V.int x.2.2.1))) H2;rw[e];exact k H2 b
inductive wN(K:zzy)(vs:List V)(H:Hp)(Q:VK)(dY:XK):Prop|m:∀(c t:Addr)(cs:List Int)(x:Nt),vs=[.ref c,.ref t]->H c=some (.lst (cs.map V.int))->H t=some (.tup (nV x))->aac cs x->aah cs->(∀H',Same H H'->Q (.bl true) H')->wN K vs H Q dY
theorem Dl(F:fU K "is_between" "is_between" pq f fd)(i:FnAt P w K mg base 2 "is_below" ["value","count"] (rY K))(D:FnAt P w K mg base 2 "is_note" ["value"] (Ad K))(r:lZ mg):bN P w K mg base ig 3 f fd ["counts","note"] (wN K):=by
 refine F.ok Di (λu H Q E h=>?_) (λC A l s H u Q E e h=>?_)
 .obtain⟨c,t,b,x,rfl,_⟩:=h
  rfl
 .obtain⟨c,t,b,x,rfl,y,o,ok,g,k⟩:=h
  have G:=e.units;obtain⟨⟨q,p⟩,⟨v,J⟩,⟨o0,n⟩,⟨m0,I⟩,m⟩:=id ok
  refine⟨_,(aA (bY (PW.pt (mK (fH (cX (bK D (e.mono DZ) oZR (aj (pv 1) au)))) (mK (fH (cX (bK i (e.mono DZ) oZR (aj (aP (aX (K:=K) rfl) (pv 1) aG (λ_ _=>rfl)) (aj (aU (aW (K:=K) rfl) oZR r.dR cH (aj (pv 0) au)) au))))) (lJ (fH (cX (bK i (e.mono DZ) oZR (aj (aP (aX (K:=K) rfl) (pv 1) aG (λ_ _=>rfl)) (aj (aU (aW (K:=K) rfl) oZR r.dR cH (aj (pv 0) au)) au))))))))) (aJ (aZ j_)) bG)
   (aJ (aZ (jA (bK i (e.mono DZ) oZR (aj (aP (aX (K:=K) rfl) (pv 1) aG (λ_ _=>rfl)) (aj (aP (aO (K:=K) rfl) (pv 0) (aP (aX (K:=K) rfl) (pv 1) aG (λ_ _=>rfl)) (λ_ _=>rfl)) au))) (iZ (bK i (e.mono DZ) oZR (aj (aP (aX (K:=K) rfl) (pv 1) aG (λ_ _=>rfl)) (aj (aP (aO (K:=K) rfl) (pv 0) (aP (aX (K:=K) rfl) (pv 1) aG (λ_ _=>rfl)) (λ_ _=>rfl)) au)))))))),?_⟩
  refine⟨_,Z,t,x,Z,o,λH1 j=>⟨_,Z,?_⟩⟩;rw[show (!decide (x.1=x.2.2.1))=true by simp[m]];refine cW ?_;have d:=j _ _ y;have a:=j _ _ o;refine⟨_,Z,_,_,_,_,Z,Z,cC.of a,Z,_,Z,c,_,Z,.inl (bF.of d),_,_,Z,_,Z,?_⟩;rw[show decide (ux x.1 (b.map V.int).length)=true by rw[aak];simp[ux,q,p]];refine cW ?_;refine⟨_,Z,_,_,_,_,Z,Z,cC.of a,Z,_,Z,c,_,Z,.inl (bF.of d),_,_,Z,_,Z,?_⟩;rw[show decide (ux x.2.2.1 (b.map V.int).length)=true by rw[aak];simp[ux,o0,n]];refine cW ?_;have g1:=(g.gI x.1).1;have g2:=(g.gI x.2.2.1).1;have B:gI b x.1=((gI b x.1).toNat:Int):=by lia
  have z:gI b x.2.2.1=((gI b x.2.2.1).toNat:Int):=by lia
  refine⟨_,Z,_,_,_,_,Z,Z,cC.of a,Z,_,Z,_,Z,_,_,_,_,Z,Z,cC.of a,Z,_,_,_,_,Z,Z,bF.of d,iT q p,x.2.1,(gI b x.1).toNat,by rw[←B];rfl,_,Z,?_⟩;rw[aaO (show ux x.2.1 (gI b x.1).toNat from ⟨v,LZ⟩)];refine eO ?_;refine⟨_,Z,_,_,_,_,Z,Z,cC.of a,Z,_,Z,_,Z,_,_,_,_,Z,Z,cC.of a,Z,_,_,_,_,Z,Z,bF.of d,iT o0 n,x.2.2.2,(gI b x.2.2.1).toNat,by rw[←z];rfl,?_⟩;rw[aaO (show ux x.2.2.2 (gI b x.2.2.1).toNat from ⟨m0,LZ⟩)];exact k H1 j
inductive Ag(K:zzy)(vs:List V)(H:Hp)(Q:VK)(dY:XK):Prop|m:∀(t c a:Addr)(cs:List Int)(ns:List Nt),vs=[.ref t]->RecAt H t c a cs ns->CG cs ns->(∀H',Same H H'->Q .non H')->Ag K vs H Q dY
def Ws(n:Nat)(v:V):(List.range n).filterMap (λ_=>some v)=List.replicate n v:=by
 induction n with
 | zero=>rfl
 | succ n a=>rw[d8,a,List.replicate_succ'];rfl
theorem Br(F:fU K "check_notes" "check_notes" m5 f fd)(L:FnAt P w K mg base 3 "is_between" ["counts","note"] (wN K))(O:lZ mg):bN P w K mg base ig 4 f fd ["record"] (Ag K):=by
 refine F.ok Al (λb H Q E h=>?_) (λJ A e s H b Q E l h=>?_)
 .obtain⟨t,c,a,p,g,rfl,_⟩:=h
  rfl
 .obtain⟨t,c,a,p,g,rfl,⟨j,B,C⟩,ok,k⟩:=h
  have S:=l.units;obtain⟨b,m,o⟩:=id C;have R:b.length=g.length:=by rw[o.length,aak]
  have nl:=ok.2.1;refine⟨_,(aJ (bY (fH (cX (aU (gA (K:=K) rfl rfl) oZR O.Kf Cq (aj (dB rfl (N:=["note","record"]) (own:=["note"]) (caps:=[0]) (bA.of (by kernel_rfl)) (cQ (K:=K) rfl (aP (aX (K:=K) rfl) (pv 0) aG (λ_ _=>rfl))) (λ_ _ _ _=>(bI (i:=0) (show List.Nodup (["note","record"]:List Str) by decide +kernel) rfl (Or.inl rfl))) (λ_ _ _ _=>cO) (λ_ _ _ _=>(bK L (l.mono DZ) oZR (aj (aP (aX (K:=K) rfl) (pv 1) aG (λ_ _=>rfl)) (aj (pv 0) au))))) au)))) (aJ U8) bG)),?_⟩;refine⟨_,Z,_,_,_,_,Z,Z,cC.of j,Z,a,Z,⟨_,bF.of m⟩,λD I=>?_⟩;refine lR (K:=K) (λi=>some (.bl true)) I (bF.of m) LZ (λi v H2 G F z d T u=>?_) (λH2 d n=>?_)
  .obtain⟨x,q,ex,rfl,y⟩:=sJ o z
   exact⟨_,Z,_,_,_,_,Z,Z,cC.of (d _ _ j),Z,_,Z,c,q,p,x,Z,d _ _ B,d _ _ y,ok.2.2 x (aaN ex),ok.1,λM r=>u _ M r rfl⟩
  .rw[Ws] at n
   refine⟨D,List.replicate b.length true,Z,bF.of (by rw[n,List.map_replicate]),_,Z,?_⟩;rw[show (List.replicate b.length true).all id=true by simp];refine cW ?_;exact k H2 d
def H_(cs ds:List Int):Prop:=ds.length=cs.length /\ ∀i:Int,0<=i->i<cs.length->0<=gI ds i/\gI ds i<=gI cs i
inductive Ui(K:zzy)(vs:List V)(H:Hp)(Q:VK)(dY:XK):Prop|m:∀(d t:Addr)(ds:List Int)(h k:Int),vs=[.ref d,.ref t]->H d=some (.lst (ds.map V.int))->H t=some (.tup [.int h,.int k])->0<=h->h<ds.length->Q (.bl (decide (k<gI ds h))) H->Ui K vs H Q dY
def ab4(F:fU K "has" "has" Ur f fd):bN P w K mg base ig 1 f fd ["done","touch"] (Ui K):=by
 refine F.ok abx (λc H Q E h=>?_) (λl A a s H c Q E m h=>?_)
 .obtain⟨d,t,j,h,k,rfl,_⟩:=h
  rfl
 .obtain⟨d,t,j,h,k,rfl,e,b,i,g,q⟩:=h
  refine⟨_,(aJ (aZ (cU tV (aP (aX (K:=K) rfl) (pv 1) aG (λ_ _=>rfl)) (aP (aO (K:=K) rfl) (pv 0) (aP (aX (K:=K) rfl) (pv 1) aG (λ_ _=>rfl)) (λ_ _=>rfl)) (bh _)))),?_⟩;exact⟨_,Z,_,_,_,_,Z,Z,cC.of b,Z,_,Z,_,Z,_,_,_,_,Z,Z,cC.of b,Z,_,_,_,_,Z,Z,bF.of e,iT i g,_,_,Z,Z,q⟩
def nK(x:Nt):List Int:=[x.1,x.2.1,x.2.2.1,x.2.2.2]
def ach(x:Nt):(nK x).map V.int=nV x:=Z
def aci{x y:Nt}(h:nK x=nK y):x=y:=by obtain⟨a,b,c,d⟩:=x;obtain⟨i,g,f,e⟩:=y;simp only[nK,List.cons.injEq,and_true] at h;obtain⟨rfl,rfl,rfl,rfl⟩:=h;rfl
def M6(ns:List Nt):Prop:=ns.Pairwise λx y=>Tim.iM (nK y) (nK x)=false
def vInt:V->Int
 | .int n=>n
 | _=>0
def tupK(H:Hp)(v:V):List Int:=match v with
 | .ref t=>match H t with
   | some (.tup xs)=>xs.map vInt
   | _=>[]
 | _=>[]
def toN:List Int->Nt
 | [a,b,c,d]=>(a,b,c,d)
 | _=>(0,0,0,0)
def rP{t:Addr}{x:Nt}(h:H t=some (.tup (nV x))):tupK H (.ref t)=nK x:=by unfold tupK;dsimp only;rw[h];rfl
def TQ(x:Nt):toN (nK x)=x:=Z
def O1{ns:List Nt}(d:aV H vs (ns.map nD))(a:v∈vs):∃t x,v=.ref t/\x∈ns/\H t=some (.tup (nV x)):=by obtain⟨i,c,e⟩:=adb a;obtain⟨x,t,ex,ev,b⟩:=sJ d (i:=i) (v:=v) (by rw[aal c,e]);exact⟨t,x,ev,aaN ex,b⟩
theorem O6{H:Hp}:∀{vs:List V}{ns:List Nt},aV H vs (ns.map nD)->vs.map (λv=>toN (tupK H v))=ns
 | [],[],_=>rfl
 | [],_::_,h=>by simp only[List.map_cons,aV] at h
 | _::_,[],h=>by simp only[List.map_nil,aV] at h
 | v::vs,n::ns,h=>by simp only[List.map_cons,aV] at h;obtain⟨t,rfl,a⟩:=Ce h.1;rw[List.map_cons,O6 h.2,rP a,TQ]
theorem VJ{H:Hp}:∀{vs:List V},(∀v∈vs,∃t x,v=V.ref t/\H t=some (.tup (nV x)))->aV H vs ((vs.map λv=>toN (tupK H v)).map nD)
 | [],_=>by simp[aV]
 | v::vs,h=>by obtain⟨t,x,rfl,a⟩:=h v (.head _);simp only[List.map_cons,aV];exact⟨by rw[rP a,TQ];exact Cg a,VJ λv b=>h v (.tail _ b)⟩
def Uk{ns:List Nt}{Q:VK}(N:mW H p ns)(k:∀l c H',H l=none->mW H' l c->c.Perm ns->M6 c->Same H H'->Q (.ref l) H'):Gs K [.ref p] H Q:=by
 obtain⟨n,z,d⟩:=N;refine⟨p,n,4,tupK H,Z,bF.of z,DZ,λy g=>?_,λl zs m j q=>?_⟩
 .obtain⟨t,x,rfl,_,f⟩:=O1 d g
  exact⟨t,Z,by rw[rP f,ach];exact cC.of f,by rw[rP f];rfl⟩
 .have i:=aH (o:=HO.lst zs) m
  have all:∀v∈zs,∃t x,v=V.ref t/\H t=some (.tup (nV x)):=λv s=>by obtain⟨t,x,e,_,f⟩:=O1 d (j.mem_iff.mp s);exact⟨t,x,e,f⟩
  refine k l (zs.map λv=>toN (tupK H v)) _ m ⟨zs,ao,aV.keep i.tups _ (cI _ qZ _) (VJ all)⟩ ?_ ?_ i
  .rw[←O6 d]
   exact j.map _
  .unfold M6
   rw[List.pairwise_map];refine List.Pairwise.imp_of_mem (fun {x y} r g h=>?_) q;obtain⟨t,a,rfl,f⟩:=all x r;obtain⟨u,b,rfl,w⟩:=all y g;rw[rP f,rP w] at h ⊢;exact h
def rpF(t f st pr:Addr):List (Str×V):=[("record",.ref t),("firsts",.ref f),("stage",.ref st),("progress",.ref pr)]
structure CZ where
 (o dx t c a f pr:Addr) (W:rE)
structure kE(CR CW CH:Addr)(i ii:Nat)(τ:Tg)(H:Hp)(R:CZ)(S:dD)(cs:List Int)(ns:List Nt)(gs:List Int):Prop where
 w:j9 CW CH i τ H R.W S
 o:H R.o=some (.ins CR R.dx (rpF R.t R.f R.W.o R.pr))
 to:τ R.o=[ii,7]
 pr:H R.pr=some (.lst (gs.map V.int))
 tp:τ R.pr=[ii,8]
 ne:ii≠i
 n0:ii≠0
 abC:RecAt (qd τ H) R.t R.c R.a cs ns
 acO:lX (qd τ H) R.f ns
 ok:CG cs ns
 lc:cs.length=S.hs.length
 dn:H_ cs gs
 gd:jW S
 ml:S.m<=100
section
variable{CR:Addr}{R:CZ}{ns:List Nt}
def kE.rcd(r:kE CR CW CH i ii τ H R S cs ns gs):RecAt H R.t R.c R.a cs ns:=r.abC.same (rQ _ _)
def kE.fst(r:kE CR CW CH i ii τ H R S cs ns gs):lX H R.f ns:=r.acO.same (rQ _ _)
theorem kE.mv(r:kE CR CW CH i ii τ H R S cs ns gs)(q:Mv i τ H τ' H')(a:Mv ii τ H τ' H')(u:rF τ' H'):kE CR CW CH i ii τ' H' R S cs ns gs:=by have c:=a.keep _ _ r.o (.inr (by rw[r.to];rfl));have b:=a.keep _ _ r.pr (.inr (by rw[r.tp];rfl));exact⟨r.w.mv q u,c.1,c.2.trans r.to,b.1,b.2.trans r.tp,r.ne,r.n0,r.abC.same (oY q),r.acO.same (oY q),r.ok,r.lc,r.dn,r.gd,r.ml⟩
theorem kE.same(r:kE CR CW CH i ii τ H R S cs ns gs)(k:Same H H'):kE CR CW CH i ii τ H' R S cs ns gs:=r.mv (Mv.of_same k) (Mv.of_same k) (r.w.un.same k)
end
def gw(S:dD)(cs a:List Int)(k:Nat):Bool:=decide (gI a k=gI cs k) || !(jN S.hs k)
def gF(ns:List Nt)(a:List Int)(k:Nat):List Nt:=((cR ns k (gI a k)).filter λq=> !decide (q.2<gI a q.1)).map λq=>(q.1,q.2,(k:Int),gI a k)
inductive nW(CR CW CH:Addr)(K:zzy)(vs:List V)(H:Hp)(Q:VK)(dY:XK):Prop|m:∀(i ii:Nat)(τ:Tg)(R:CZ)(S:dD)(cs gs:List Int)(ns:List Nt),vs=[.ref R.o]->kE CR CW CH i ii τ H R S cs ns gs->(∀l H',H l=none->H' l=some (.lst (gs.map V.int))->Same H H'->Q (.ref l) H')->nW CR CW CH K vs H Q dY
def Le(F:fU K "counts" "Replay.counts" j6 f fd)(c:dF K aC)(p:lZ mg):bN P w K mg base ig 1 f fd ["self"] (nW aC ak aq K):=by
 refine F.ok wW (λe H Q E h=>?_) (λo A a s H e Q E q h=>?_)
 .obtain⟨i,j,d,R,S,n,m,g,rfl,_⟩:=h
  rfl
 .obtain⟨i,j,d,R,S,n,m,g,rfl,r,k⟩:=h
  refine⟨_,(aJ (aZ (dh (cA (K:=K) rfl) oZR p.gP fu (aj (bf (K:=K) rfl (pv 0) rfl) au)))),?_⟩;exact⟨_,Z,R.o,aC,R.dx,_,_,Z,r.o,c.cls,c.fJ,Z,R.pr,_,Z,.inl (bF.of r.pr),λl b=>k l _ b ao (aH b)⟩
inductive uV(CR CW CH:Addr)(K:zzy)(vs:List V)(H:Hp)(Q:VK)(dY:XK):Prop|m:∀(i ii:Nat)(τ:Tg)(R:CZ)(S:dD)(cs gs:List Int)(ns:List Nt),vs=[.ref R.o]->kE CR CW CH i ii τ H R S cs ns gs->Q (.bl (decide (gs=cs))) H->uV CR CW CH K vs H Q dY
def Vs(F:fU K "done" "Replay.done" nF f fd)(a:dF K aC)(p:lZ mg):bN P w K mg base ig 1 f fd ["self"] (uV aC ak aq K):=by
 refine F.ok Av (λd H Q E h=>?_) (λo A b s H d Q E l h=>?_)
 .obtain⟨i,j,c,R,S,n,m,g,rfl,_⟩:=h
  rfl
 .obtain⟨i,j,c,R,S,n,m,g,rfl,r,k⟩:=h
  have e:=l.units;refine⟨_,(aJ (aZ (cU (pJ (K:=K) rfl e) (bf (K:=K) rfl (pv 0) rfl) (aP (aX (K:=K) rfl) (bf (K:=K) rfl (pv 0) rfl) aG (λ_ _=>rfl)) (bh _)))),?_⟩;have rc:=r.rcd;refine⟨_,Z,R.o,aC,R.dx,_,_,Z,r.o,a.cls,a.fJ,Z,_,Z,R.o,aC,R.dx,_,_,Z,r.o,a.cls,a.oH,Z,_,_,_,_,Z,Z,cC.of rc.1,Z,_,_,bZ r.pr,bZ rc.2.1,shaped_ints _,shaped_ints _,?_⟩;rw[adp aaT,jR PyData.int pR];exact k
inductive qy(CR CW CH:Addr)(K:zzy)(vs:List V)(H:Hp)(Q:VK)(dY:XK):Prop|m:∀(i ii i':Nat)(τ:Tg)(R:CZ)(S:dD)(cs gs:List Int)(ns:List Nt),vs=[.ref R.o]->kE CR CW CH i ii τ H R S cs ns gs->i'≠0->(∀(τ':Tg)(W':rE)(H':Hp),j9 CW CH i' τ' H' W' S->(∀x u,H x=some u->τ' x=τ x)->Same H H'->Q (.ref W'.o) H')->qy CR CW CH K vs H Q dY
def QS(F:fU K "works" "Replay.works" lD f fd)(d:dF K aC)(t:cD K ak)(j:MethAt P w K mg base 9 ak "twin" ["self"] (wK ak aq K))(u:lZ mg):bN P w K mg base ig 10 f fd ["self"] (qy aC ak aq K):=by
 refine F.ok yK (λe H Q E h=>?_) (λq A a s H e Q E n h=>?_)
 .obtain⟨i,l,c,b,R,S,p,o,g,rfl,_⟩:=h
  rfl
 .obtain⟨i,l,c,b,R,S,p,o,g,rfl,r,m,k⟩:=h
  refine⟨_,(aJ (aZ (bU j t.cls (n.mono DZ) (bf (K:=K) rfl (pv 0) rfl)))),?_⟩;exact⟨_,Z,R.o,aC,R.dx,_,_,Z,r.o,d.cls,d.zq,Z,R.W.o,R.W.dx,_,Z,r.w.o,Z,i,c,b,R.W,S,Z,r.w,r.gd,r.ml,m,k⟩
inductive qz(CR CW CH:Addr)(K:zzy)(vs:List V)(H:Hp)(Q:VK)(dY:XK):Prop|m:∀(i ii:Nat)(τ:Tg)(R:CZ)(S:dD)(cs gs:List Int)(ns:List Nt)(k:Nat),vs=[.ref R.o,.int k]->kE CR CW CH i ii τ H R S cs ns gs->k<cs.length->Q (.bl (gw S cs gs k)) H->qz CR CW CH K vs H Q dY
theorem QT(F:fU K "is_over" "Replay.is_over" jw f fd)(a:dF K aC)(B:cD K ak)(x:MethAt P w K mg base 4 ak "how" ["self","hand"] (λvs H Q _=>yh ak aq bw K vs H Q λ_ _ _=>False))(G:lZ mg):bN P w K mg base ig 5 f fd ["self","hand"] (qz aC ak aq K):=by
 refine F.ok u0 (λvs H Q E h=>?_) (λy A g s H vs Q E v h=>?_)
 .obtain⟨i,u,l,R,S,d,c,o,n,rfl,_⟩:=h
  rfl
 .obtain⟨i,u,l,R,S,d,c,o,n,rfl,r,nl,k⟩:=h
  refine⟨_,(aJ (aZ (Vc (cU dZ (aP (aO (K:=K) rfl) (bf (K:=K) rfl (pv 0) rfl) (pv 1) (λ_ _=>rfl)) (aP (aO (K:=K) rfl) (aP (aX (K:=K) rfl) (bf (K:=K) rfl (pv 0) rfl) aG (λ_ _=>rfl)) (pv 1) (λ_ _=>rfl)) (bh _)) (iZ (cU oG (cu x B.cls (v.mono DZ) (bf (K:=K) rfl (pv 0) rfl) (aj (pv 1) au)) bO (bh _)))))),?_⟩;have rc:=r.rcd;have C:=r.dn.1;refine⟨_,Z,R.o,aC,R.dx,_,_,Z,r.o,a.cls,a.fJ,Z,_,Z,_,_,_,_,Z,Z,bF.of r.pr,iT LZ LZ,_,Z,R.o,aC,R.dx,_,_,Z,r.o,a.cls,a.oH,Z,_,_,_,_,Z,Z,cC.of rc.1,Z,_,Z,_,_,_,_,Z,Z,bF.of rc.2.1,iT LZ LZ,Z,?_⟩;have p:n<S.hs.length:=by rw[←r.lc];exact nl
  have m:S.hs[n]?=some S.hs[n]:=by simp[p]
  by_cases e:gI c n=gI d n
  .rw[aaO (by rw[e])]
   refine⟨_,Z,eO ?_⟩;have:gw S d c n=true:=by unfold gw;rw[aaO e];rfl
   rw[←this];exact k
  .rw[aaP (λz=>e (V.int.inj z))]
   refine⟨_,Z,cW ?_⟩;have j:ux (n:Int) S.hs.length:=⟨LZ,LZ⟩;refine⟨_,Z,R.o,aC,R.dx,_,_,Z,r.o,a.cls,a.zq,Z,R.W.o,R.W.dx,_,Z,r.w.o,Z,_,Z,i,l,R.W,S,_,Z,r.w,λt t3 D b=>?_,λz=>adt j z⟩
   obtain rfl:t3=S.hs[n]:=by
    have:t=n:=by lia
    subst this;rw[m] at b;exact(aaY b).symm
   refine⟨Z,?_⟩
   have:gw S d c n = !decide (V.str S.hs[n].st=V.str (Str.ofString "waits")):=by
    unfold gw jN;rw[aaP e,m]
    by_cases q:S.hs[n].st=Str.ofString "waits"
    .simp only[q];rfl
    .have:¬V.str S.hs[n].st=V.str (Str.ofString "waits"):=λz=>q (V.str.inj z)
     show (false || !decide (S.hs[n].st=Str.ofString "waits"))=_;rw[aaP q,aaP this];rfl
   rw[this] at k;exact k
inductive Ae(CR CW CH:Addr)(K:zzy)(vs:List V)(H:Hp)(Q:VK)(dY:XK):Prop|m:∀(i ii:Nat)(τ:Tg)(R:CZ)(S:dD)(cs gs:List Int)(ns:List Nt)(k:Nat),vs=[.ref R.o,.int k]->kE CR CW CH i ii τ H R S cs ns gs->k<cs.length->(∀l H',H l=none->mW H' l (gF ns gs k)->Same H H'->Q (.ref l) H')->Ae CR CW CH K vs H Q dY
theorem Lg(F:fU K "holding" "Replay.holding" jx f fd)(g:dF K aC)(X:FnAt P w K mg base 1 "has" ["done","touch"] (Ui K))(Bt:lZ mg):bN P w K mg base ig 2 f fd ["self","hand"] (Ae aC ak aq K):=by
 refine F.ok mF (λI H Q E h=>?_) (λa2 A L s H I Q E hr h=>?_)
 .obtain⟨i,ii,τ,R,S,cs,a,b,n,rfl,_⟩:=h
  rfl
 .obtain⟨i,ii,τ,R,S,cs,a,b,n,rfl,r,nl,k⟩:=h
  have hu:=aaK hr
  refine⟨_,(aA (bH (i:=2) mF.nd rfl (Or.inr rfl) (dI (aj (pv 1) (aj (aP (aO (K:=K) rfl) (bf (K:=K) rfl (pv 0) rfl) (pv 1) (λ_ _=>rfl)) au))))
   (aJ (aZ (dB rfl (N:=["first","touch","self"]) (own:=["first"]) (caps:=[2,0]) (bA.of (by kernel_rfl)) (cQ (K:=K) rfl (Vh hu (bf (K:=K) rfl (pv 0) rfl) (pv 2) (cP au) ⟨Z,Z,Z,Z⟩)) (λ_ _ _ _=>(bI (i:=0) (show List.Nodup (["first","touch","self"]:List Str) by decide +kernel) rfl (Or.inl rfl))) (λ_ _ _ _=>(vq (fH (cX (bK X (hr.mono DZ) oZR (aj (bf (K:=K) rfl (pv 2) rfl) (aj (pv 0) au))))))) (λ_ _ _ _=>(bR Vj (pv 0) (pv 1))))))),?_⟩
  have lg:=r.dn.1;refine⟨_,Z,_,Z,R.o,aC,R.dx,_,_,Z,r.o,g.cls,g.fJ,Z,_,Z,_,_,_,_,Z,Z,bF.of r.pr,iT LZ LZ,sZ2,λt ht=>?_⟩;have Y:=aH (o:=HO.tup [V.int n,V.int (gI a n)]) ht;have J:=r.same Y;obtain⟨M,hF,m⟩:=J.fst;refine⟨_,Z,R.o,aC,R.dx,_,_,Z,J.o,g.cls,g.Jm,Z,R.f,Z,.inr ⟨_,.inl hF⟩,_,Z,sZ0,λC T=>?_⟩;have c:=aH (o:=HO.lst []) T;have d:=Y.trans c;refine⟨_,Xn.t (k:=[Sum.inl (n:Int),Sum.inl (gI a n)]) (c _ _ hF) (c _ _ ao),?_⟩
  obtain⟨l,U,PL⟩:∃l,(gq M [Sum.inl (n:Int),Sum.inl (gI a n)]).getD (V.ref C)=.ref l/\rG (upd (upd H t (.tup [V.int n,V.int (gI a n)])) C (.lst [])) l (cR b n (gI a n)):=by
   rcases m n (gI a n) with z|⟨l,e1,e2⟩
   .exact⟨C,by rw[z.1];rfl,by rw[z.2];exact⟨[],ao,by simp[aV]⟩⟩
   .exact⟨l,by rw[e1];rfl,e2.same c⟩
  rw[U];obtain⟨I,O,W⟩:=id PL;have vl:I.length=(cR b n (gI a n)).length:=by rw[W.length,aak]
  have fl:(cR b n (gI a n)).length<=b.length:=by unfold cR;rw[aak];exact List.length_filter_le ..
  have a0:=r.ok.2.1;have y:(upd (upd H t (.tup [V.int n,V.int (gI a n)])) C (.lst [])) t=some (.tup [V.int n,V.int (gI a n)]):=c _ _ ao;have r2:=J.same c;generalize (upd (upd H t (.tup [V.int n,V.int (gI a n)])) C (.lst []))=H2 at d O W PL y r2 c ⊢;refine⟨l,Z,⟨_,bF.of O⟩,λD hD=>?_⟩;refine R_ (K:=K) (λi=>((cR b n (gI a n))[i]?).bind λq=>if !decide (q.2<gI a q.1) then some (nD (q.1,q.2,(n:Int),gI a n)) else none) (λi dd e=>?_) hD (bF.of O) LZ (λi v H3 G F hi j kG kF=>?_) (λH3 ws j e3 d3=>?_)
  .cases ex:(cR b n (gI a n))[i]? with
   | none=>rw[ex] at e;cases e
   | some x=>
     rw[ex,Option.bind_some] at e;split at e
     .cases e;rfl
     .cases e
  .obtain⟨q,u,eq,rfl,hq⟩:=YG W hi
   obtain⟨x,xm,rfl⟩:∃x∈b,q=ft x:=by obtain⟨x,hx,e⟩:=abE.mp (aaN eq);exact⟨x,(acJ.mp hx).1,e.symm⟩
   obtain⟨⟨h0,h1⟩,⟨k0,k1⟩,⟨o0,o1⟩,⟨m0,m1⟩,a1⟩:=r.ok.2.2 x xm;have r3:=r2.same j;have B:=j _ _ hq;simp only[eq,Option.bind_some] at kG kF;refine⟨_,Z,R.o,aC,R.dx,_,_,Z,r3.o,g.cls,g.fJ,Z,_,Z,R.pr,u,a,_,_,Z,r3.pr,B,h0,by rw[lg];exact h1,_,Z,?_⟩
   by_cases w:(ft x).2<gI a (ft x).1
   .rw[aaO w]
    refine cW ?_;exact kG _ (Same.refl _) (by simp[w])
   .rw[aaP w]
    refine eO ?_;refine⟨_,Z,_,Z,u,t,_,_,Z,Z,B,j _ _ y,by show 2+2<=sizeLine;decide,λp H4 hp s4=>?_⟩;exact kF _ (nD ((ft x).1,(ft x).2,(n:Int),gI a n)) _ s4 (by simp[w]) (Cg hp)
  .rw[vl,Hq (λq:Qk=> !decide (q.2<gI a q.1)) (λq:Qk=>nD (q.1,q.2,(n:Int),gI a n))] at d3
   refine k D H3 (d.free hD) ⟨ws,e3,?_⟩ (d.trans j);unfold gF;rw[acr];exact d3
def Ca(S:dD)(cs:List Int)(ns:List Nt)(a:List Int):List Nat:=(List.range cs.length).filter λk=> !gw S cs a k&&(gF ns a k).isEmpty
inductive yW(CR CW CH:Addr)(K:zzy)(vs:List V)(H:Hp)(Q:VK)(dY:XK):Prop|m:∀(i ii:Nat)(τ:Tg)(R:CZ)(S:dD)(cs gs:List Int)(ns:List Nt),vs=[.ref R.o]->kE CR CW CH i ii τ H R S cs ns gs->(∀l H',H l=none->H' l=some (.lst ((Ca S cs ns gs).map λk:Nat=>V.int k))->Same H H'->Q (.ref l) H')->yW CR CW CH K vs H Q dY
theorem Vp(F:fU K "free" "Replay.free" nA f fd)(g:dF K aC)(L:MethAt P w K mg base 5 aC "is_over" ["self","hand"] (qz aC ak aq K))(J:MethAt P w K mg base 2 aC "holding" ["self","hand"] (Ae aC ak aq K))(z:lZ mg):bN P w K mg base ig 6 f fd ["self"] (yW aC ak aq K):=by
 refine F.ok Ar (λB H Q E h=>?_) (λU A o s H B Q E u h=>?_)
 .obtain⟨i,p,m,R,S,c,a,b,rfl,_⟩:=h
  rfl
 .obtain⟨i,p,m,R,S,c,a,b,rfl,r,k⟩:=h
  refine⟨_,(aJ (aZ (dB rfl (N:=["hand","self"]) (own:=["hand"]) (caps:=[0]) (bA.of (by kernel_rfl)) (cN oZR z.dH (aj (aU (aW (K:=K) rfl) oZR z.dR cH (aj (bf (K:=K) rfl (pv 0) rfl) au)) au)) (λ_ _ _ _=>(bI (i:=0) (show List.Nodup (["hand","self"]:List Str) by decide +kernel) rfl (Or.inl rfl))) (λ_ _ _ _=>(vq (PW.pt (xu (fH (cX (cu L g.cls (u.mono DZ) (pv 1) (aj (pv 0) au)))) (vp (fH (Eh (K:=K) rfl (cu J g.cls (u.mono DZ) (pv 1) (aj (pv 0) au))))))))) (λ_ _ _ _=>(pv 0))))),?_⟩;have C:=r.dn.1;have Y:=r.ok.1.1;refine⟨_,Z,R.o,aC,R.dx,_,_,Z,r.o,g.cls,g.fJ,Z,R.pr,_,Z,.inl (bF.of r.pr),_,Z,by rw[aak];lia,by rw[aak];lia,λD x=>?_⟩;rw[aak,abf,C];refine sX (λj=>if !gw S c a j&&(gF b a j).isEmpty then some (.int (j:Nat)) else none) x LZ (λj H1 G F v n t I=>?_) (λH1 n y=>?_)
  .have e:=r.same n
   refine⟨_,Z,R.o,R.dx,_,Z,e.o,Z,_,Z,i,p,m,R,S,c,a,b,j,by rw[Int.zero_add];rfl,e,v,_,Z,?_⟩;cases eo:gw S c a j with
   | true=>
     refine cW ?_;exact t H1 (Same.refl _) (by rw[eo];rfl)
   | false=>
     refine eO ?_;refine⟨_,Z,R.o,R.dx,_,Z,e.o,Z,_,Z,i,p,m,R,S,c,a,b,j,by rw[Int.zero_add];rfl,e,v,λl H2 X W q=>?_⟩;obtain⟨d,M,T⟩:=W;have wl:d.length=(gF b a j).length:=by rw[T.length,aak]
     have O:d.isEmpty=(gF b a j).isEmpty:=by cases d<;>cases h:gF b a j<;>rw[h] at wl<;>first |rfl|(simp at wl)
     refine⟨!d.isEmpty,.inl ⟨d,bF.of M,Z⟩,?_⟩;rw[O];cases eh:(gF b a j).isEmpty with
     | true=>
       refine eO ?_;exact⟨_,Z,I _ H2 q (by rw[eo,eh,Int.zero_add];rfl)⟩
     | false=>
       refine cW ?_;exact t H2 q (by rw[eo,eh];rfl)
  .rw[Wr (λj=> !gw S c a j&&(gF b a j).isEmpty) (λj:Nat=>V.int j)] at y
   exact k D H1 x y n
def Yw(cs a:List Int)(k:Nat):List Qk:=(List.range (gI cs k-gI a k).toNat).map λj:Nat=>((k:Int),gI a k+(j:Int))
def qU(cs a:List Int)(n:Nat):List Qk:=(List.range n).flatMap (Yw cs a)
inductive Gb(CR CW CH:Addr)(K:zzy)(vs:List V)(H:Hp)(Q:VK)(dY:XK):Prop|m:∀(i ii:Nat)(τ:Tg)(R:CZ)(S:dD)(cs gs:List Int)(ns:List Nt),vs=[.ref R.o]->kE CR CW CH i ii τ H R S cs ns gs->(∀l H',H l=none->rG H' l (qU cs gs cs.length)->Same H H'->Q (.ref l) H')->Gb CR CW CH K vs H Q dY
def uw(cs a:List Int)(n:Nat):qU cs a (n+1)=qU cs a n++Yw cs a n:=by unfold qU;rw[List.range_succ,List.flatMap_append];simp
theorem Zd(F:fU K "left" "Replay.left" m_ f fd)(W:dF K aC)(Bt:lZ mg):bN P w K mg base ig 1 f fd ["self"] (Gb aC ak aq K):=by
 refine F.ok iY (λvs H Q E h=>?_) (λa3 A a0 s H vs Q E hr h=>?_)
 .obtain⟨i,ii,τ,R,S,b,d,ns,rfl,_⟩:=h
  rfl
 .obtain⟨i,ii,τ,R,S,b,d,ns,rfl,r,k⟩:=h
  refine⟨_,(aA (bH (i:=1) iY.nd rfl (Or.inl rfl) (cP au))
   (aA (iI PassesOwn.never rfl (Vb (K:=K) rfl oZR Bt.Kd (aj (aP (aX (K:=K) rfl) (bf (K:=K) rfl (pv 0) rfl) aG (λ_ _=>rfl)) au)) (Gx (K:=K) (n:=2) rfl rfl (oA (bI (i:=2) iY.nd rfl (Or.inr rfl)) (oA (bI (i:=3) iY.nd rfl (Or.inl rfl)) Gw)))
   (aJ (cL (xH (K:=K) rfl PySem.F.plainAttrs_list PySem.F.slot_list_extend PySem.F.type_list_extend Q7 (pv 1) (aj (dB rfl (N:=["k","hand"]) (own:=["k"]) (caps:=[2]) (bA.of (by kernel_rfl)) (Ei oZR Bt.dH (aj (aP (aO (K:=K) rfl) (bf (K:=K) rfl (pv 0) rfl) (pv 2) (λ_ _=>rfl)) (aj (pv 3) au))) (λ_ _ _ _=>(bI (i:=0) (show List.Nodup (["k","hand"]:List Str) by decide +kernel) rfl (Or.inl rfl))) (λ_ _ _ _=>cO) (λ_ _ _ _=>(dI (aj (pv 1) (aj (pv 0) au))))) au)))))
   (aJ (aZ (pv 1))))),?_⟩
  have lg:=r.dn.1;have c8:=r.ok.1.1;refine⟨sZ0,λl hl=>?_⟩;have sl:=aH (o:=HO.lst []) hl;have r1:=r.same sl;have rc:=r1.rcd;refine⟨_,Z,R.o,aC,R.dx,_,_,Z,r1.o,W.cls,W.oH,Z,_,_,_,_,Z,Z,cC.of rc.1,Z,R.c,_,Z,bF.of rc.2.1,?_⟩;refine Wo (K:=K) (xs:=b.map V.int) (λj u z=>∃(M L:Option V) (ps:List Qk),u=[some (.ref R.o),some (.ref l),M,L]/\Same H z/\rG z l (qU b d j)) ?_ ?_ ?_ ?_
  .exact⟨none,none,[],Z,sl,[],ao,by simp[qU,aV]⟩
  .rintro j u z _ ⟨M,L,ps,rfl,C,_⟩
   exact bF.of ((r.same C).rcd.2.1)
  .rintro j x u z p I ⟨M,L,ps,rfl,C,X⟩ hp
   rw[aap] at I
   obtain⟨c,ec,rfl⟩:∃c,b[j]?=some c/\x=.int c:=by
    cases e:b[j]? with
    | none=>rw[e] at I;cases I
    | some c=>rw[e] at I;exact⟨c,Z,(aaY I).symm⟩
   have jl:=(aam.mp ec).1;have gc:gI b j=c:=B_ ec;subst gc;have gb:=r.dn.2 j LZ LZ;have cb:=r.ok.1.gI j;have Y:=aH (o:=HO.tup [V.int (j:Int),V.int (gI b j)]) hp;have r2:=r.same (C.trans Y);obtain⟨O,y,dw⟩:=X.same Y;refine⟨p,_,Z,cC.of ao,Z,_,_,Z,_,_,Z,Z,?_⟩;dsimp only[bV];refine⟨_,Z,.inl ⟨Z,_,bF.of y⟩,_,Z,R.o,aC,R.dx,_,_,Z,r2.o,W.cls,W.fJ,Z,_,Z,_,_,_,_,Z,Z,bF.of r2.pr,iT LZ LZ,_,Z,_,_,Z,⟨LZ,LZ,LZ,LZ⟩,λD hD=>?_⟩
   have ll:O.length<=8*300:=by
    rw[dw.length,aak]
    have:∀n,n<=b.length->(qU b d n).length<=n*300:=λn=>by
     induction n with
     | zero=>intro _;simp[qU]
     | succ n ih=>
       intro h;have:=ih LZ;have a4:=r.ok.1.gI n;have a2:=r.dn.2 n LZ LZ;rw[uw,aa1];unfold Yw;rw[aak,List.length_range];lia
    have:=this j LZ;lia
   have sD:=aH (o:=HO.lst []) hD;refine iQ (lo:=gI d j) (n:=(gI b j-gI d j).toNat) (λm u Hd=>(∃v,u=[v,some (.int j)])/\Same (upd z p (.tup [V.int j,V.int (gI b j)])) Hd/\rG Hd D ((List.range m).map λx:Nat=>((j:Int),gI d j+(x:Int)))) ?_ ?_ ?_
   .exact⟨⟨none,Z⟩,sD,[],ao,by simp[aV]⟩
   .rintro m u Hd hm ⟨⟨v,rfl⟩,B,g,t,J⟩
    dsimp only[bV,uO];rw[adq rfl];refine⟨_,Z,_,Z,sZ2,λq hq=>?_⟩;have T:=aH (o:=HO.tup [V.int j,V.int (gI d j+m)]) hq;have ul:g.length=m:=by rw[J.length];simp
    have U:Kp D (upd Hd q (.tup [V.int j,V.int (gI d j+m)])) (upd (upd Hd q (.tup [V.int j,V.int (gI d j+m)])) D (.lst (g++[V.ref q]))):=Kp.set;have G:=U.tups (T _ _ t);refine⟨g,T _ _ t,by rw[ul,sizeLine_eq];lia,⟨_,Z⟩,(B.trans T).newly hD,g++[V.ref q],ao,?_⟩;rw[List.range_succ,abd,abd];exact iU (aV.keep (λa xs h=>G _ _ (T.tups _ _ h)) _ (cI _ qY _) J) (PX (x:=((j:Int),gI d j+(m:Int))) (G _ _ ao))
   .rintro u Hd ⟨⟨v,rfl⟩,B,g,t,J⟩
    have ul:g.length<=300:=by rw[J.length];simp;lia
    refine⟨l,D,O,g,Z,Z,B _ _ y,t,by rw[sizeLine_eq];lia,?_⟩;have a1:=B _ _ y;have U:Kp l Hd (upd Hd l (.lst (O++g))):=Kp.set;have G:=U.tups a1;refine⟨_,_,[],Z,λx o e=>U _ _ (B _ _ (Y _ _ (C _ _ e))) (aB e hl),O++g,ao,?_⟩;rw[uw,abd];exact aV.append (aV.keep (λa xs h=>G _ _ (B.tups _ _ h)) _ (cI _ qY _) dw) (aV.keep G _ (cI _ qY _) J)
  .rintro u z ⟨M,L,ps,rfl,C,X⟩
   rw[aak] at X;exact⟨_,Z,k l z hl X C⟩
inductive FZ(CR CW CH:Addr)(K:zzy)(vs:List V)(H:Hp)(Q:VK)(dY:XK):Prop|m:∀(i ii:Nat)(τ:Tg)(R:CZ)(S:dD)(cs gs:List Int)(ns:List Nt),vs=[.ref R.o]->kE CR CW CH i ii τ H R S cs ns gs->(∀H',Same H H'->Q (.int (cs.sum-gs.sum)) H')->FZ CR CW CH K vs H Q dY
def Rg(d:H_ cs gs):((qU cs gs cs.length).length:Int)=cs.sum-gs.sum:=by
 have take:∀(l:List Int)(n:Nat),n<l.length->(l.take (n+1)).sum=(l.take n).sum+gI l n:=λl n h=>by rw[B_ (aal h),acq,aal h,List.sum_append];show _+([l[n]]:List Int).sum=_;rw[List.sum_cons,List.sum_nil,Int.add_zero]
 have:∀n,n<=cs.length->((qU cs gs n).length:Int)=(cs.take n).sum-(gs.take n).sum:=λn=>by
  induction n with
  | zero=>intro _;simp[qU]
  | succ n a=>
    intro h;have e:=a LZ;have b:=d.2 n LZ LZ;rw[uw,aa1,take cs n LZ,take gs n (by rw[d.1];lia)];unfold Yw;rw[aak,List.length_range];lia
 have e:=this cs.length (aav _);rw[acg] at e;rw[e,←d.1,acg]
def Y_(F:fU K "__len__" "Replay.__len__" jy f fd)(t:dF K aC)(v:MethAt P w K mg base 1 aC "left" ["self"] (Gb aC ak aq K))(x:lZ mg):bN P w K mg base ig 2 f fd ["self"] (FZ aC ak aq K):=by
 refine F.ok u_ (λj H Q E h=>?_) (λq A a s H j Q E n h=>?_)
 .obtain⟨i,d,b,R,S,g,e,c,rfl,_⟩:=h
  rfl
 .obtain⟨i,d,b,R,S,g,e,c,rfl,r,k⟩:=h
  refine⟨_,(aJ (aZ (aU (aW (K:=K) rfl) oZR x.dR cH (aj (bU v t.cls (n.mono DZ) (pv 0)) au)))),?_⟩;refine⟨_,Z,R.o,R.dx,_,Z,r.o,Z,i,d,b,R,S,g,e,c,Z,r,λl H1 z u m=>?_⟩;obtain⟨y,o,p⟩:=u;refine⟨l,_,Z,.inl (bF.of o),?_⟩;rw[p.length,aak,Rg r.dn];exact k H1 m
inductive yZ(CE:Addr)(K:zzy)(vs:List V)(H:Hp)(Q:VK)(dY:XK):Prop|m:∀(e:Addr)(v:V),vs=[.ref e,v]->H e=some (Qh CE none e)->(∀d,H d=none->Q .non (upd (upd H d (.xd [("note",v)])) e (Qh CE (some d) e)))->yZ CE K vs H Q dY
def Vw(F:fU K "__init__" "Held.__init__" qJ f fd)(b:Xf K mg bQ "Held" "note"):bN P w K mg base ig 1 f fd ["self","note"] (yZ bQ K):=by
 refine F.ok Gg (λc H Q E h=>?_) (λj A a s H c Q E l h=>?_)
 .obtain⟨e,v,rfl,_⟩:=h
  rfl
 .obtain⟨e,v,rfl,g,k⟩:=h
  refine⟨_,(aJ (YC (K:=K) rfl (pv 0) (pv 1) rfl)),?_⟩;exact⟨_,Z,_,Z,e,bQ,Z,g,b.sa,b.na,λd i=>k d i⟩
def Rr{e:Addr}{a b c:HO}(n:d≠e):upd (upd (upd H e a) d b) e c=upd (upd H d b) e c:=by
 funext x
 by_cases z:x=e
 .rw[z,ao,ao]
 .rw[aF z,aF z]
  by_cases y:x=d
  .rw[y,ao,ao]
  .rw[aF y,aF y,aF z]
def St2(i ii:Nat)(τ:Tg)(H H':Hp):Prop:=∃H1,k_ i τ H H1/\k_ ii τ H1 H'
def iW(a:List Int)(k:Nat):List Int:=a.set k (gI a k+1)
inductive uT(CR CW CH CN CO CE:Addr)(K:zzy)(vs:List V)(H:Hp)(Q:VK)(E:XK):Prop|m:∀(i ii:Nat)(τ:Tg)(R:CZ)(S:dD)(cs gs:List Int)(ns:List Nt)(h:Int),vs=[.ref R.o,.int h]->kE CR CW CH i ii τ H R S cs ns gs->S.ts.length<=9000->(∀(k:Nat)(x:Nt)(p d:Addr)(H':Hp),h=k->k<cs.length->gw S cs gs k=false->(gF ns gs k)[0]?=some x->H d=none->H' d=some (.xd [("note",.ref p)])->Dat H' (.ref p) (nD x)->Same H H'->E (.ref CE) (some d) H')->(∀(k:Nat)(s:bJ)(r:Rw)(t:Addr)(H':Hp),h=k->k<cs.length->gw S cs gs k=false->gF ns gs k=[]->S.hs[k]?=some s->s.st = "waits" -> s.rws[s.pos]?=some r->touch r=true->H t=none->H' t=some (.tup (zY S.ns s.bs r))->kE CR CW CH i ii τ H' R (cG S k) cs ns (iW gs k)->St2 i ii τ H H'->Q (.ref t) H')->(¬ux h cs.length->E (.ref CN) none H)->(∀k:Nat,h=k->k<cs.length->gw S cs gs k=true->E (.ref CO) none H)->uT CR CW CH CN CO CE K vs H Q E
def DX(S:dD)(k:Nat):(cG S k).hs.length=S.hs.length:=by
 unfold cG;split
 .rfl
 .split
  .rfl
  .simp
def X7(S:dD)(k:Nat):(cG S k).m=S.m:=by
 unfold cG;split
 .rfl
 .split<;>rfl
theorem Vn(F:fU K "turn" "Replay.turn" m8 f fd)(gB:Xr K mg bw "NoHand")(j8:Xr K mg cZ "Over")(D:dF K aC)(aK:cD K ak)(fL:FnAt P w K mg base 2 "is_below" ["value","count"] (rY K))(jE:MethAt P w K mg base 5 aC "is_over" ["self","hand"] (qz aC ak aq K))(jF:MethAt P w K mg base 2 aC "holding" ["self","hand"] (Ae aC ak aq K))(jj:jM P w K mg base 7 ak "turn" ["self","hand"] (wL ak aq bw cZ K))(a8:Qi P w K mg base 1 bQ "Held" ["self","note"] (yZ bQ K))(Bt:lZ mg):bN P w K mg base (tM P w) 8 f fd ["self","hand"] (uT aC ak aq bw cZ bQ K):=by
 refine F.Xv lA (λvs H Q E h=>?_) (λa9 A a2 s H vs Q E U h hR=>?_)
 .obtain⟨i,Y,C,R,S,cs,g,T,h,rfl,_⟩:=h
  rfl
 .obtain⟨i,Y,C,R,S,cs,g,T,h,rfl,r,tl,k0,k1,k2,k3⟩:=h
  refine⟨_,(aA (bY (fH (cX (bK fL (U.mono DZ) oZR (aj (pv 1) (aj (aU (aW (K:=K) rfl) oZR Bt.dR cH (aj (bf (K:=K) rfl (pv 0) rfl) au)) au))))) (aJ (lK PySem.F.excBase_ValueError gB.ex gB.bd oZR rfl rfl hR (aj bO au))) bG)
   (aA (bY (cX (cu jE D.cls (U.mono DZ) (pv 0) (aj (pv 1) au))) (aJ (lK PySem.F.excBase_ValueError j8.ex j8.bd oZR rfl rfl hR (aj bO au))) bG)
   (aA (bH (i:=2) lA.nd rfl (Or.inl rfl) (cu jF D.cls (U.mono DZ) (pv 0) (aj (pv 1) au)))
   (aA (bY (Eh (K:=K) rfl (pv 2)) (aJ (QH a8 rfl rfl hR (U.mono DZ) oZR (aj (aP (aO (K:=K) rfl) (pv 2) aG (λ_ _=>rfl)) au))) bG)
   (aA (bH (i:=3) lA.nd rfl (Or.inl rfl) (oE jj aK.cls rfl hR (U.mono DZ) (bf (K:=K) rfl (pv 0) rfl) (aj (pv 1) au)))
   (aA (YF (bf (K:=K) rfl (pv 0) rfl) (pv 1) (La (K:=K) rfl) aG G3 set_list)
   (aJ (aZ (pv 3))))))))),?_⟩
  have lg:=r.dn.1;refine⟨_,Z,_,Z,R.o,aC,R.dx,_,_,Z,r.o,D.cls,D.fJ,Z,R.pr,_,Z,.inl (bF.of r.pr),h,_,Z,_,Z,?_⟩;rw[aak,lg]
  by_cases W:ux h cs.length
  .rw[aaO W]
   refine cW ?_;obtain⟨n,rfl⟩:=adh W.1;have nl:n<cs.length:=by have:=W.2;lia
   refine⟨_,Z,R.o,R.dx,_,Z,r.o,Z,_,Z,i,Y,C,R,S,cs,g,T,n,Z,r,nl,_,Z,?_⟩;cases eo:gw S cs g n with
   | true=>
     refine eO ?_;exact⟨sZ1,k3 n rfl nl eo⟩
   | false=>
     refine cW ?_;refine⟨_,Z,R.o,R.dx,_,Z,r.o,Z,_,Z,i,Y,C,R,S,cs,g,T,n,Z,r,nl,λl H1 fl N1 N=>?_⟩;obtain⟨L,hl,dw⟩:=N1;have wl:L.length=(gF T g n).length:=by rw[dw.length,aak]
     refine⟨_,Z, !L.isEmpty,.inl ⟨L,bF.of hl,Z⟩,?_⟩;cases he:gF T g n with
     | cons x0 xr=>
       rw[he] at dw wl
       obtain⟨v0,vr,rfl⟩:∃v0 vr,L=v0::vr:=by
        cases L with
        | nil=>simp at wl
        | cons a b=>exact⟨a,b,Z⟩
       refine eO ?_
       obtain⟨p0,rfl,a4⟩:∃p,v0=.ref p/\Dat H1 (.ref p) (nD x0):=by have d0:Dat H1 v0 (nD x0):=dw.1;obtain⟨p,xs,e,q⟩:=id d0;subst e;exact⟨p,Z,d0⟩
       refine⟨_,Z,l,_,_,_,Z,Z,bF.of hl,cj (j:=0) rfl,sZ1,λe a5=>⟨e,.ref p0,Z,ao,λd B=>⟨Z,d,_,Rr ?_,?_,?_⟩⟩⟩
       .intro z
        rw[z,ao] at B;cases B
       .have nd:e≠d:=λz=>by rw[←z,ao] at B;cases B
        rw[aF nd];exact a5
       .have nd:d≠e:=λz=>by rw[z,ao] at B;cases B
        rw[aF nd] at B;have sd:=aH (o:=HO.xd [("note",V.ref p0)]) B;exact k0 n x0 p0 d _ rfl nl eo (by rw[he];rfl) (N.free B) ao (a4.same sd _) (N.trans sd)
     | nil=>
     rw[he] at wl;have we:L=[]:=List.eq_nil_of_length_eq_zero wl;rw[we];refine cW ?_;have u:=r.same N;have nS:n<S.hs.length:=by rw[←r.lc];exact nl
     have es:S.hs[n]?=some S.hs[n]:=by simp[nS]
     have wt:S.hs[n].st = "waits" :=by unfold gw jN at eo;rw[es,Bool.or_eq_false_iff] at eo;have:=eo.2;simpa using this
     have a3:ux (n:Int) S.hs.length:=⟨LZ,LZ⟩
     have one:∀(c:Nat)(t:bJ),(n:Int)=c->S.hs[c]?=some t->t=S.hs[n]/\c=n:=λc t e1 J=>by
      have:c=n:=by lia
      subst this;rw[es] at J;exact⟨(aaY J).symm,Z⟩
     refine⟨_,Z,R.o,aC,R.dx,_,_,Z,u.o,D.cls,D.zq,Z,R.W.o,R.W.dx,_,Z,u.w.o,Z,_,Z,i,C,R.W,S,_,Z,u.w,LZ,λc X r' tt H2 e1 J a0 a6 a1 tf tk w2 G=>?_,λz=>adt a3 z,λc X e1 J z=>adt (by rw[(one c X e1 J).1];exact wt) z⟩;obtain⟨e3,e4⟩:=one c X e1 J;subst e4;have gb:=r.dn.2 c LZ LZ;have e5:=u.n0;have y:=G.keep _ _ u.pr (by rw[u.tp];intro z;exact u.ne (aaY z));have I:=G.keep _ _ u.o (by rw[u.to];intro z;exact u.ne (aaY z));refine⟨_,Z,R.o,aC,R.dx,_,_,Z,I,D.cls,D.fJ,Z,_,Z,R.pr,_,_,_,Z,Z,bF.of y,LZ,(by rw[abf,aap,aal LZ];rfl),_,_,Z,Z,R.pr,_,_,_,Z,Z,y,zx LZ (by rw[aak];lia),?_⟩;have gl:c<g.length:=by lia
     have gg:gI g c=g[c]:=B_ (aal gl)
     have em:(g.map V.int).set ((c:Int)).toNat (.int (g[c]+1))=(iW g c).map V.int:=by unfold iW;rw[gg,List.map_set,abf]
     rw[em];have m:k_ Y C H2 (upd H2 R.pr (.lst ((iW g c).map V.int))):=k_.set (by rw[u.tp];rfl) y XZ;have M:k_ i C H H2:=(k_.of_same N).trans G
     have ne1:gI g c≠gI cs c:=by unfold gw at eo;rw[Bool.or_eq_false_iff] at eo;exact of_decide_eq_false eo.1
     have ft:H tt=none:=N.free tf
     have a7:H_ cs (iW g c):=by
      refine⟨by unfold iW;rw[acF];exact lg,λx x0 x1=>?_⟩;have:=r.dn.2 x x0 x1;have e:=acN (cs:=g) (h:=(c:Int)) (k:=x) (v:=gI g c+1) LZ LZ x0;rw[abf] at e;unfold iW;rw[e];split
      .rename_i z
       subst z;lia
      .exact this
     refine⟨_,Z,k1 c X r' tt _ rfl nl eo he J a0 a6 a1 ft ?_ ?_ ⟨H2,M,m⟩⟩
     .exact m.tup _ _ tk
     .have O:Same (qd C H) (qd C (upd H2 R.pr (.lst ((iW g c).map V.int)))):=(iV M r.w.i0).trans (iV m r.n0)
      refine⟨w2.mv (Mv.dJ m r.ne r.n0) (m.un w2.un),?_,r.to,ao,r.tp,r.ne,r.n0,r.abC.same O,r.acO.same O,r.ok,by rw[DX];exact r.lc,a7,r.gd.turn c,by rw[X7];exact r.ml⟩;rw[aF (dG I y ZN)];exact I
  .rw[aaP W]
   refine eO ?_;exact⟨sZ1,k2 W⟩
inductive uU(CR CW CH CN:Addr)(K:zzy)(vs:List V)(H:Hp)(Q:VK)(E:XK):Prop|m:∀(i i' ii:Nat)(τ:Tg)(o dx t c a:Addr)(W:rE)(S:dD)(cs:List Int)(ns:List Nt),vs=[.ref o,.ref W.o,.ref t]->H o=some (.ins CR dx [])->τ o=[]->j9 CW CH i τ H W S->jW S->S.m<=100->RecAt H t c a cs ns->CG cs ns->i'≠0->ii≠0->ii≠i'->ii≠i->(cs.length=S.hs.length -> ∀(τ':Tg)(R:CZ)(ns':List Nt)(H':Hp),R.o=o->ns'.Perm ns->M6 ns'->kE CR CW CH i' ii τ' H' R S cs ns' (List.replicate cs.length 0)->(∀x u,H x=some u->x≠o->τ' x=τ x)->Kp o H H'->Q .non H')->(cs.length≠S.hs.length -> ∀H',Same H H'->E (.ref CN) none H')->uU CR CW CH CN K vs H Q E
theorem Vo(F:fU K "__init__" "Replay.__init__" nu f fd)(gB:Xr K mg bw "NoHand")(M:dF K aC)(aK:cD K ak)(DK:FnAt P w K mg base 4 "check_notes" ["record"] (Ag K))(gU:MethAt P w K mg base 1 ak "counts" ["self"] (nY ak aq K))(Kr:FnAt P w K mg base 1 "firsts_of" ["record"] (Af K))(jh:MethAt P w K mg base 9 ak "twin" ["self"] (wK ak aq K))(Bt:lZ mg):bN P w K mg base (tM P w) 10 f fd ["self","works","record"] (uU aC ak aq bw K):=by
 refine F.Xv Aq (λvs H Q E h=>?_) (λe3 A d4 s H vs Q E hr h hR=>?_)
 .obtain⟨i,i',g,B,o,b,t,c,a,W,S,L,ns,rfl,_⟩:=h
  rfl
 .obtain⟨i,i',g,B,o,b,t,c,a,W,S,L,ns,rfl,ho,to,w,gd,ml,R,ok,i0,O,c0,d0,k1,k2⟩:=h
  refine⟨_,(aA (cL (bK DK (hr.mono DZ) oZR (aj (pv 2) au)))
   (aA (bY (bD oG (aU (aW (K:=K) rfl) oZR Bt.dR cH (aj (aP (aX (K:=K) rfl) (pv 2) aG (λ_ _=>rfl)) au)) (aU (aW (K:=K) rfl) oZR Bt.dR cH (aj (bU gU aK.cls (hr.mono DZ) (pv 1)) au)) (bh _)) (aJ (lK PySem.F.excBase_ValueError gB.ex gB.bd oZR rfl rfl hR (aj bO au))) bG)
   (aA (dz (K:=K) rfl (pv 0) (dI (aj (dh (cA (K:=K) rfl) oZR Bt.gP fu (aj (aP (aX (K:=K) rfl) (pv 2) aG (λ_ _=>rfl)) au)) (aj (aU (J8 (K:=K) rfl) oZR Bt.Xa Sh (aj (aP (aX (K:=K) rfl) (pv 2) aG (λ_ _=>rfl)) au)) au))) rfl)
   (aA (dz (K:=K) rfl (pv 0) (bK Kr (hr.mono DZ) oZR (aj (bf (K:=K) rfl (pv 0) rfl) au)) rfl)
   (aA (dz (K:=K) rfl (pv 0) (bU jh aK.cls (hr.mono DZ) (pv 1)) rfl)
   (aJ (dz (K:=K) rfl (pv 0) (dB rfl (N:=["count"]) (own:=["count"]) (caps:=[]) (bA.of (by kernel_rfl)) (cQ (K:=K) rfl (aP (aX (K:=K) rfl) (bf (K:=K) rfl (pv 0) rfl) aG (λ_ _=>rfl))) (λ_ _ _ _=>(bI (i:=0) (show List.Nodup (["count"]:List Str) by decide +kernel) rfl (Or.inl rfl))) (λ_ _ _ _=>cO) (λ_ _ _ _=>aG)) rfl))))))),?_⟩
  refine⟨_,Z,t,c,a,L,ns,Z,R,ok,λH1 s1=>?_⟩;have R1:=R.same s1;have w1:=w.same s1;refine⟨_,Z,_,_,_,_,Z,Z,cC.of R1.1,Z,c,_,Z,.inl (bF.of R1.2.1),_,Z,W.o,W.dx,_,Z,w1.o,Z,i,B,W,S,Z,w1,λl H2 fl el s2=>⟨l,_,Z,.inl (bF.of el),Z,_,Z,?_⟩⟩;have X:=s1.trans s2;have cl:(yO S).length=S.hs.length:=by unfold yO;simp
  rw[aak,aak,cl]
  by_cases hl:L.length=S.hs.length
  .refine cV (λq=>adt q (by rw[hl,aaO rfl];decide)) (λ_=>?_)
   have c2:=X _ _ ho;have b2:=w.same X;have R2:=R.same X;have B2:Bs H B o (aQ B o [g,7]) H2:=⟨λx e=>by rw[aR (aB c2 e).symm];exact b2.un x e,Kp.of_same X,λx u e n=>aR n⟩
   have w2:j9 ak aq i (aQ B o [g,7]) H2 W S:=b2.mv ⟨λx u e t=>⟨e,aR (λz=>by rw[z,to] at t;rcases t with t|t<;>cases t)⟩,λx xs e=>e⟩ B2.un
   have to2:aQ B o [g,7] o=[g,7]:=bC;generalize aQ B o [g,7]=b1 at B2 w2 to2;clear b2 R1 w1;refine⟨_,Z,_,_,_,_,Z,Z,cC.of R2.1,Z,c,_,Z,.inl (bF.of R2.2.1),λC a6=>?_⟩;have s3:=aH (o:=HO.lst (L.map V.int)) a6;have a8:(upd H2 C (.lst (L.map V.int))) C=some (.lst (L.map V.int)):=ao;have R3:=R2.same s3;have B3:=B2.claim (t:=[0]) s3 a6 ⟨_,a8⟩;have w3:=w2.mv (Mv.claim (p:=C) (t:=[0]) s3 a6) B3.un;have c1:=s3 _ _ c2;have to3:aQ b1 C [0] o=[g,7]:=by rw[aR (aB c2 a6)];exact to2
   have c6:aQ b1 C [0] C=[0]:=bC;generalize (upd H2 C (.lst (L.map V.int)))=H3 at s3 a8 R3 B3 w3 c1 ⊢;generalize aQ b1 C [0]=a0 at B3 w3 to3 c6;refine⟨_,Z,_,_,_,_,Z,Z,cC.of R3.1,Z,?_⟩;dsimp only[wJ];refine Uk (K:=K) R3.2.2 λI J H4 a7 N4 pm Xu s4=>?_
   have d6:∃u,H4 I=some u:=by obtain⟨vs,e,_⟩:=N4;exact⟨_,e⟩
   have B4:=B3.claim (t:=[0]) s4 a7 d6;have w4:=w3.mv (Mv.claim (p:=I) (t:=[0]) s4 a7) B4.un;have d7:=s4 _ _ c1;have e0:=s4 _ _ a8;have b6:aQ a0 I [0] o=[g,7]:=by rw[aR (aB c1 a7)];exact to3
   have c5:aQ a0 I [0] C=[0]:=by rw[aR (aB a8 a7)];exact c6
   have c7:aQ a0 I [0] I=[0]:=bC;generalize aQ a0 I [0]=r at B4 w4 b6 c5 c7;refine⟨sZ2,λd d5=>?_⟩;have s5:=aH (o:=HO.tup [V.ref C,V.ref I]) d5;have R5:RecAt (upd H4 d (.tup [V.ref C,V.ref I])) d C I L J:=⟨ao,s5 _ _ e0,N4.same s5⟩;have B5:=B4.same s5;have w5:=w4.same s5;have Xw:=s5 _ _ d7;generalize (upd H4 d (.tup [V.ref C,V.ref I]))=H5 at s5 R5 B5 w5 Xw ⊢;have c9:CG L J:=⟨ok.1,by rw[pm.length_eq];exact ok.2.1,λx hx=>ok.2.2 x (pm.mem_iff.mp hx)⟩;refine⟨_,Z,o,aC,b,_,Z,Xw,M.cls,M.oH,DZ,?_⟩
   have Fy:∀(B:Tg)(H:Hp)(v:HO),rF B H->rF B (upd H o v):=λB H v u=>u.dom λy e=>by
    by_cases z:y=o
    .rw[z,ao] at e;cases e
    .rw[aF z] at e;exact e
   have a5:(upd H5 o (.ins aC b (cM "record" (.ref d) []))) o=some (.ins aC b [("record",.ref d)]):=ao;have b8:k_ g r H5 (upd H5 o (.ins aC b (cM "record" (.ref d) []))):=k_.set (by rw[b6];rfl) Xw XZ;have B6:Bs H B o r (upd H5 o (.ins aC b (cM "record" (.ref d) []))):=B5.set (.inl rfl);have w6:=w5.mv (Mv.dJ b8 d0 O) B6.un
   have r5:RecAt (qd r H5) d C I L J:=by obtain⟨vs,e1,e2⟩:=R5.2.2;exact⟨qx R5.1,uP c5 R5.2.1,vs,uP c7 e1,aV.keep (λa xs e=>qx e) _ (cI _ qZ _) e2⟩
   have r6:=r5.same (iV b8 O);generalize (upd H5 o (.ins aC b (cM "record" (.ref d) [])))=H6 at a5 b8 B6 w6 r6 ⊢;refine⟨_,Z,o,aC,b,_,_,Z,a5,M.cls,M.oH,Z,d,C,I,L,J,Z,r6.same (rQ _ _),c9,λf T hf F7 s7=>?_⟩;have b3:=abe s7 B6.un;have U:∀x u,H6 x=some u->Sx r H6 T x=r x:=λx u e=>Yb e;have B7:Bs H B o (Sx r H6 T) T:=⟨b3,B6.kp.trans (Kp.of_same s7),λx u e n=>(U x u (B6.kp _ _ e n)).trans (B6.tg x u e n)⟩;have w7:=w6.mv (Mv.tags s7 U) b3;have r7:=r6.same (oY (i:=0) (Mv.tags s7 U));have f7:lX (qd (Sx r H6 T) T) f J:=F7.same ab';have d3:=s7 _ _ a5;have b5:Sx r H6 T o=[g,7]:=(U _ _ a5).trans b6;generalize Sx r H6 T=b0 at b3 U B7 w7 r7 f7 b5;refine⟨_,Z,o,aC,b,_,Z,d3,M.cls,M.Jm,(by show 1<1000;decide),?_⟩;have ZF:(upd T o (.ins aC b (cM "firsts" (.ref f) [("record",.ref d)]))) o=some (.ins aC b [("record",.ref d),("firsts",.ref f)]):=ao;have a3:k_ g b0 T (upd T o (.ins aC b (cM "firsts" (.ref f) [("record",.ref d)]))):=k_.set (by rw[b5];rfl) d3 XZ;have B8:Bs H B o b0 (upd T o (.ins aC b (cM "firsts" (.ref f) [("record",.ref d)]))):=B7.set (.inl rfl);have w8:=w7.mv (Mv.dJ a3 d0 O) B8.un;have r8:=r7.same (iV a3 O);have f8:=f7.same (iV a3 O);generalize (upd T o (.ins aC b (cM "firsts" (.ref f) [("record",.ref d)])))=H8 at ZF a3 B8 w8 r8 f8 ⊢;refine⟨_,Z,W.o,W.dx,_,Z,w8.o,Z,i,i',b0,W,S,Z,w8,gd,ml,i0,λk W' H9 w9 a1 s9=>?_⟩;have B9:Bs H B o k H9:=⟨w9.un,B8.kp.trans (Kp.of_same s9),λx u e n=>(a1 x u (B8.kp _ _ e n)).trans (B8.tg x u e n)⟩;have r9:=r8.same (oY (i:=0) (Mv.tags s9 a1));have f9:=f8.same (oY (i:=0) (Mv.tags s9 a1));have d2:=s9 _ _ ZF;have c4:k o=[g,7]:=(a1 _ _ ZF).trans b5;refine⟨_,Z,o,aC,b,_,Z,d2,M.cls,M.zq,(by show 2<1000;decide),?_⟩;have Y:(upd H9 o (.ins aC b (cM "stage" (.ref W'.o) [("record",.ref d),("firsts",.ref f)]))) o=some (.ins aC b [("record",.ref d),("firsts",.ref f),("stage",.ref W'.o)]):=ao;have a2:k_ g k H9 (upd H9 o (.ins aC b (cM "stage" (.ref W'.o) [("record",.ref d),("firsts",.ref f)]))):=k_.set (by rw[c4];rfl) d2 XZ;have Ba:Bs H B o k (upd H9 o (.ins aC b (cM "stage" (.ref W'.o) [("record",.ref d),("firsts",.ref f)]))):=B9.set (.inl rfl);have wa:=w9.mv (Mv.dJ a2 c0 O) Ba.un;have ra:=r9.same (iV a2 O);have fa:=f9.same (iV a2 O);generalize (upd H9 o (.ins aC b (cM "stage" (.ref W'.o) [("record",.ref d),("firsts",.ref f)])))=Ha at Y a2 Ba wa ra fa ⊢;have b9:=ra.same (rQ _ _);refine⟨_,Z,o,aC,b,_,_,Z,Y,M.cls,M.oH,Z,_,_,_,_,Z,Z,cC.of b9.1,Z,C,Z,⟨_,bF.of b9.2.1⟩,λD hD=>?_⟩;refine lR (K:=K) (λ_=>some (.int 0)) hD (bF.of b9.2.1) (by rw[aak];have:=ok.1.1;lia) (λj v H3 G F hi s3 kG kF=>kF _ H3 (Same.refl _) rfl) (λHb sb eb=>?_);rw[Ho,aak] at eb;have Bb:=Ba.claim (t:=[g,8]) sb hD ⟨_,eb⟩;have qb:∀m,Mv m k Ha (aQ k D [g,8]) Hb:=λm=>Mv.claim sb hD;have wb:=wa.mv (qb i') Bb.un;have rb:=ra.same (oY (qb 0));have fb:=fa.same (oY (qb 0));have d1:=sb _ _ Y;have b4:aQ k D [g,8] o=[g,7]:=by rw[aR (aB Y hD)];exact c4
   have c8:aQ k D [g,8] D=[g,8]:=bC;generalize aQ k D [g,8]=a9 at Bb qb wb rb fb b4 c8;refine⟨_,Z,o,aC,b,_,Z,d1,M.cls,M.fJ,(by show 3<1000;decide),?_⟩;have b7:k_ g a9 Hb (upd Hb o (.ins aC b (cM "progress" (.ref D) [("record",.ref d),("firsts",.ref f),("stage",.ref W'.o)]))):=k_.set (by rw[b4];rfl) d1 XZ;have Bc:Bs H B o a9 (upd Hb o (.ins aC b (cM "progress" (.ref D) [("record",.ref d),("firsts",.ref f),("stage",.ref W'.o)]))):=Bb.set (.inl rfl);refine k1 hl a9 ⟨o,b,d,C,I,f,D,W'⟩ J _ rfl pm Xu ⟨wb.mv (Mv.dJ b7 c0 O) Bc.un,ao,b4,?_,c8,c0,O,rb.same (iV b7 O),fb.same (iV b7 O),c9,hl,?_,gd,ml⟩ Bc.tg Bc.kp
   .rw[aF (aB Y hD).symm]
    exact eb
   .refine⟨MZ,λx x0 x1=>?_⟩
    have e:gI (List.replicate L.length 0) x=0:=by unfold gI;rw[List.getElem?_replicate];split<;>rfl
    rw[e];exact⟨Int.le_refl _,(ok.1.gI x).1⟩
  .refine cV (λ_=>?_) (λq=>adt ?_ q)
   .exact⟨sZ1,k2 hl H2 X⟩
   .have:¬V.int (L.length:Int)=V.int (S.hs.length:Int):=λz=>hl (by have:=V.int.inj z;lia)
    rw[aaP this];rfl
theorem Hr{α:Type}{p:α->Bool}:∀{l:List α}{n:Nat}{x:α},(l.filter p)[n]?=some x -> ∃c,l[c]?=some x/\p x=true/\((l.take c).filter p).length=n
 | [],n,x,h=>by simp at h
 | y::l,n,x,h=>by
   rw[acT] at h;cases e:p y with
   | false=>
     rw[e] at h;obtain⟨c,h1,b,a⟩:=Hr (l:=l) (by simpa using h);exact⟨c+1,by simpa using h1,b,by rw[List.take_succ_cons,acT,e];simpa using a⟩
   | true=>
     rw[e,adq rfl] at h;cases n with
     | zero=>
       have:y=x:=by simpa using h
       subst this;exact⟨0,Z,e,MZ⟩
     | succ n=>
       obtain⟨c,h1,b,a⟩:=Hr (l:=l) (by simpa using h);exact⟨c+1,by simpa using h1,b,by rw[List.take_succ_cons,acT,e];simpa using a⟩
def kc(m:List Tc)(k:Nat):Nat:=(m.filter λt=>t.k=k).length
def fj(m:List Tc)(n:Nat):List Int:=(List.range n).map λk=>(kc m k:Int)
def GX(m:List Tc)(x:Tc)(k:Nat):kc (m++[x]) k=kc m k+(if x.k=k then 1 else 0):=by
 unfold kc;rw[ado,aa1]
 by_cases z:x.k=k<;>simp[z]
def Zn{a b:Nat}(h:a<=b):kc (l.take a) k<=kc (l.take b) k:=by
 have:l.take a=(l.take b).take a:=by rw[List.take_take,Nat.min_eq_left h]
 rw[this];exact((List.take_sublist a (l.take b)).filter _).length_le
def BP{x:Tc}{a b:Nat}(h:a<b)(e:l[a]?=some x):kc (l.take a) x.k<kc (l.take b) x.k:=by
 have:kc (l.take (a+1)) x.k=kc (l.take a) x.k+1:=by rw[acq,e];show kc (l.take a++[x]) x.k=_;rw[GX,adq rfl]
 have:=Zn (l:=l) (k:=x.k) (show a+1<=b from h);lia
def Lz{x:Tc}{a:Nat}(e:l[a]?=some x):kc (l.take a) x.k<kc l x.k:=by have:=BP (aam.mp e).1 e;rwa [acg] at this
def vH(h:n<kc l k):∃c x,l[c]?=some x/\x.k=k/\kc (l.take c) k=n/\(l.filter λt=>t.k=k)[n]?=some x:=by obtain⟨x,a⟩:∃x,(l.filter λt=>t.k=k)[n]?=some x:=⟨_,aal h⟩;obtain⟨c,e,d,b⟩:=Hr a;exact⟨c,x,e,aaQ d,b,a⟩
def Pn{o:List Nat}(c:∀{b:Nat}{y:Tc},l[b]?=some y->(b∈o↔kc (l.take b) y.k<kc (pick l o) y.k)){a:Nat}{x:Tc}(e:l[a]?=some x)(n:a∉o)(q:∀m y,m<a->l[m]?=some y->y.k=x.k->m∈o):kc (l.take a) x.k=kc (pick l o) x.k:=by
 refine Nat.le_antisymm (Nat.le_of_not_lt λw=>?_) (Nat.le_of_not_lt λw=>n ((c e).mpr w));obtain⟨m,y,d,f,g,_⟩:=vH w;rw[List.getElem?_take] at d
 by_cases z:m<a
 .rw[adq z] at d
  rw[List.take_take,Nat.min_eq_left (adn z)] at g;have:=(c d).mp (q m y z d f);rw[f] at this;lia
 .rw[adp z] at d
  cases d
def yF.cnt{o:List Nat}(h:yF l o):∀{b:Nat}{y:Tc},l[b]?=some y->(b∈o↔kc (l.take b) y.k<kc (pick l o) y.k):=by
 induction h with
 | nil=>intro b y e;simp[pick,kc]
 | @snoc o a x h e n q d=>
   intro b y c;have g:pick l (o++[a])=pick l o++[x]:=by rw[jP,jz e];rfl
   rw[g,GX,abA,ab7,d c]
   by_cases z:x.k=y.k
   .have ca:=Pn d e n λm y lt f k=>q m y lt f (.inl k)
    rw[adq z];rw[z] at ca;constructor
    .rintro(w|w)
     .lia
     .subst w;lia
    .intro w
     refine Classical.byContradiction λnn=>?_;have ne:b≠a:=λt=>nn (.inr t)
     have:kc (l.take b) y.k=kc (l.take a) y.k:=by have:¬kc (l.take b) y.k<kc (pick l o) y.k:=λt=>nn (.inl t);lia
     rcases Nat.lt_or_ge a b with w|w
     .have:=BP w e;rw[z] at this;lia
     .have:=BP (show b<a by lia) c;lia
   .rw[adp z]
    constructor
    .rintro(w|w)
     .lia
     .subst w;rw[e] at c;cases c;exact adt rfl z
    .intro w;exact .inl LZ
def dO(m:List Tc)(n:Nat):(fj m n).length=n:=by unfold fj;simp
def fK{m:List Tc}(h:k<n):gI (fj m n) k=kc m k:=B_ (by unfold fj;simp[h])
def JF{m:List Tc}{x:Tc}(h:x.k<n):fj (m++[x]) n=iW (fj m n) x.k:=by
 unfold iW;rw[fK h];refine List.ext_getElem? λk=>?_
 by_cases a:k<n
 .have c:(fj (m++[x]) n)[k]?=some (kc (m++[x]) k:Int):=by unfold fj;simp[a]
  have b:(fj m n)[k]?=some (kc m k:Int):=by unfold fj;simp[a]
  rw[c,GX]
  by_cases z:x.k=k
  .subst z
   rw[adq rfl,List.getElem?_set_self (by rw[dO];exact h)];rfl
  .rw[adp z,List.getElem?_set_ne z,b]
   rfl
 .rw[List.getElem?_eq_none (by rw[dO];lia),List.getElem?_eq_none (by rw[acF,dO];lia)]
theorem sum_set:∀{l:List Int}{k:Nat}{v:Int},k<l.length->(l.set k v).sum=l.sum+v-gI l k
 | [],k,v,h=>by simp at h
 | x::l,0,v,h=>by simp[gI];lia
 | x::l,k+1,v,h=>by
   have:=sum_set (l:=l) (k:=k) (v:=v) (by simpa using h);have e:gI (x::l) ((k+1:Nat):Int)=gI l k:=by unfold gI;simp
   rw[e,List.set_cons_succ,List.sum_cons,List.sum_cons,this];lia
theorem Oi:∀n:Nat,(List.replicate n (0:Int)).sum=0
 | 0=>rfl
 | n+1=>by rw[List.replicate_succ,List.sum_cons,Oi n];rfl
theorem zy(n:Nat):∀(s:Nat)(m:List Tc),m.length=s->(∀x∈m,x.k<n)->(fj m n).sum=s
 | 0,m,hs,_=>by
   rw[List.eq_nil_of_length_eq_zero hs]
   have:fj [] n=List.replicate n 0:=by
    refine List.ext_getElem? λk=>?_;unfold fj
    by_cases z:k<n<;>simp[z,kc]
   rw[this,Oi];rfl
 | s+1,m,hs,h=>by
   rcases List.eq_nil_or_concat m with rfl|⟨b,x,rfl⟩
   .cases hs
   .have a:b.length=s:=by simpa using hs
    have c:=h x MZ;rw[List.concat_eq_append,JF c];unfold iW;rw[sum_set (by rw[dO];exact c),zy n s b a λy d=>h y (by simp[d])];lia
def yF.rest{o:List Nat}(h:yF l o):(qM l o).length+o.length=l.length/\(pick l o).length=o.length:=by
 induction h with
 | nil=>exact⟨by unfold qM;rw[List.filter_eq_self.mpr λi _=>MZ];simp,Z⟩
 | @snoc o a x h e n q b=>
   obtain⟨pre,post,f,d,_⟩:=Ed (aam.mp e).1 n;rw[f] at b;have c:pick l []=[]:=Z;rw[d,jP,jz e,c];simp only[aa1,ac8,List.length_nil] at b ⊢;lia
def yF.whole{o:List Nat}(h:yF l o)(b:o.length=l.length):∀i,i<l.length->i∈o:=λi a=>by have:qM l o=[]:=List.eq_nil_of_length_eq_zero (by have:=h.rest.1;lia);have:=List.filter_eq_nil_iff.mp this i (acS.mpr a);simpa using this
def yF.left{o:List Nat}(h:yF l o)(s:o.length<l.length):∃a x,l[a]?=some x/\yF l (o++[a])/\a∉o /\ ∀m,m<a->m∈o:=by
 have ex:∃a,a<l.length/\a∉o:=Classical.byContradiction λn=>by
  have:qM l o=[]:=List.filter_eq_nil_iff.mpr λi p=>by have:=Classical.byContradiction λz=>n ⟨i,acS.mp p,z⟩;simp[this]
  have:=h.rest.1
  simp_all
 have least:∀n a,a<=n->a<l.length->a∉o -> ∃a,a<l.length/\a∉o /\ ∀m,m<a->m∈o:=λn=>by
  induction n with
  | zero=>intro a q f e;exact⟨a,f,e,λm b=>LZ⟩
  | succ n k=>
    intro a q f e
    by_cases z:∃m,m<a/\m∉o
    .obtain⟨m,r,j⟩:=z
     exact k m LZ LZ j
    .exact⟨a,f,e,λm b=>Classical.byContradiction λy=>z ⟨m,b,y⟩⟩
 obtain⟨a,d,c⟩:=ex;obtain⟨a,d,c,g⟩:=least a a (aav _) d c;exact⟨a,_,aal d,.snoc h (aal d) c λm y b _ _=>g m b,c,g⟩
def Wc(l:List Tc):yN (l.map gj)=l.map λt=>(t.k:Int):=by unfold yN gj;rw[acr];rfl
def acX(l:List Tc)(k:Nat):(l.map λt=>(t.k:Int)).count (k:Int)=kc l k:=by
 unfold kc
 induction l with
 | nil=>rfl
 | cons x l a=>
   rw[List.map_cons,List.count_cons,a,acT]
   by_cases z:x.k=k
   .subst z;simp
   .have:¬((x.k:Int)=(k:Int)):=λy=>z LZ
    simp[z,this]
def GF{x y:Tc}(ex:l[i]?=some x)(a:l[j]?=some y):pZ (l.map gj) i j=((x.k:Int),(kc (l.take i) x.k:Int),(y.k:Int),(kc (l.take j) y.k:Int)):=by
 have g:∀{i:Nat}{x:Tc},l[i]?=some x->gI (yN (l.map gj)) i=x.k:=fun {i x} e=>B_ (by rw[Wc,aap,e];rfl)
 have c:∀{i:Nat}{x:Tc},l[i]?=some x->ctW (l.map gj) i=kc (l.take i) x.k:=fun {i x} e=>by unfold ctW;rw[g e,Wc,←List.map_take,acX]
 unfold pZ;rw[g ex,g a,c ex,c a]
def JD{ns:List Nt}:gF ns gs k=[] ↔ ∀x∈ns,x.2.2.1=(k:Int)->x.2.2.2=gI gs k->x.2.1<gI gs x.1:=by
 unfold gF;rw[List.map_eq_nil_iff,List.filter_eq_nil_iff];constructor
 .intro h x b f e
  have:ft x∈cR ns k (gI gs k):=abE.mpr ⟨x,acJ.mpr ⟨b,by simp[f,e]⟩,Z⟩;have:=h _ this;have:¬((!decide ((ft x).2<gI gs (ft x).1))=true):=this;rw[Bool.not_eq_true',decide_eq_false_iff_not,Decidable.not_not] at this;exact this
 .intro h q c
  obtain⟨x,b,rfl⟩:=abE.mp c;obtain⟨d,a⟩:=acJ.mp b;have a:x.2.2.1=(k:Int)/\x.2.2.2=gI gs k:=by simpa using a
  have:=h x d a.1 a.2;rw[Bool.not_eq_true',decide_eq_false_iff_not,Decidable.not_not];exact this
def Fq(l:List Tc)(few:Bool)(ns:List Nt):Prop:=∀x,x∈ns ↔ ∃i j,j<l.length/\tQ (l.map gj) few i j/\x=pZ (l.map gj) i j
def Fz(h:tQ (l.map gj) few i j):i<j:=h.1
def Ry{o:List Nat}{ns:List Nt}{T:dD}(O:yF l o)(h:∀x∈l,touch x.r=true)(i:∀x∈l,x.k<n)(N:Fq l few ns)(f:k<n)(le:kc (pick l o) k<=kc l k)(d:gw T (fj l n) (fj (pick l o) n) k=false)(he:gF ns (fj (pick l o) n) k=[]):∃a x,l[a]?=some x/\x.k=k/\yF l (o++[a])/\(l.filter λt=>t.k=k)[kc (pick l o) k]?=some x:=by
 have ne:kc (pick l o) k≠kc l k:=λz=>by unfold gw at d;rw[fK f,fK f,z] at d;simp at d
 obtain⟨a,x,c,rfl,ca,fa⟩:=vH (show kc (pick l o) k<kc l k by lia);have na:a∉o:=λz=>by have:=(O.cnt c).mp z;lia
 refine⟨a,x,c,Z,O.add h (few:=few) c na (λm y lt b e=>(O.cnt b).mpr ?_) (λm g=>?_),fa⟩
 .have:=BP lt b
  rw[e] at this ⊢;lia
 .have lt:=Fz g
  have al:=(aam.mp c).1;obtain⟨y,b⟩:∃y,l[m]?=some y:=⟨_,aal LZ⟩;have mem:=(N _).mpr ⟨m,a,al,g,Z⟩;rw[GF b c] at mem;have:=JD.mp he _ mem rfl (by rw[fK f,ca]);dsimp only at this;rw[fK (i y (aaN b))] at this;exact(O.cnt b).mpr LZ
def Rx{o:List Nat}{ns:List Nt}{S1 T:dD}(O:yF l o)(g:∀x∈l,x.k<n)(N:Fq l few ns)(v:o.length<l.length)(R:Run S l S1)(D:Run S (pick l o) T):Ca T (fj l n) ns (fj (pick l o) n)≠[]:=by
 obtain⟨a,x,b,E,na,f⟩:=O.left v;have c:=g x (aaN b);have ca:=Pn O.cnt b na λm y lt _ _=>f m lt;obtain⟨s,A,k,_⟩:=R.next E b D
 have:x.k∈Ca T (fj l n) ns (fj (pick l o) n):=by
  refine acJ.mpr ⟨acS.mpr (by rw[dO];exact c),?_⟩
  have C:gw T (fj l n) (fj (pick l o) n) x.k=false:=by
   unfold gw jN;rw[fK c,fK c,A];have:=Lz b;have:¬((kc (pick l o) x.k:Int)=kc l x.k):=λz=>by lia
   simp[this,k]
  have B:gF ns (fj (pick l o) n) x.k=[]:=JD.mpr λq u q1 q2=>by
   obtain⟨i,j,r,p,rfl⟩:=(N q).mp u;have lt:=Fz p;obtain⟨y,d⟩:∃y,l[i]?=some y:=⟨_,aal LZ⟩;obtain⟨z,h⟩:∃z,l[j]?=some z:=⟨_,aal r⟩;rw[GF d h] at q1 q2 ⊢;dsimp only at q1 q2 ⊢;rw[fK c] at q2;have e:z.k=x.k:=by lia
   have t:j=a:=by
    rw[e] at q2;rcases Nat.lt_trichotomy j a with w|w|w
    .have:=BP w h;rw[e] at this;lia
    .exact w
    .have:=BP w b;lia
   subst t;rw[fK (g y (aaN d))];have:=(O.cnt d).mp (f i lt);lia
  rw[C,B];rfl
 exact λz=>by rw[z] at this;cases this
def xP{o:List Nat}{ns:List Nt}{T:dD}(O:yF l o)(f:o.length=l.length)(d:H_ (fj l n) (fj (pick l o) n)):fj (pick l o) n=fj l n/\Ca T (fj l n) ns (fj (pick l o) n)=[]:=by
 have eq:∀k,k<n->kc (pick l o) k=kc l k:=λk b=>by have:=(d.2 k LZ (by rw[dO];lia)).2;rw[fK b,fK b] at this;refine Nat.le_antisymm LZ (Nat.le_of_not_lt λw=>?_);obtain⟨a,x,e,rfl,ca,_⟩:=vH w;have:=(O.cnt e).mp (O.whole f a (aam.mp e).1);lia
 refine⟨?_,?_⟩
 .unfold fj
  refine List.map_congr_left λk c=>?_;rw[eq k (acS.mp c)]
 .refine List.filter_eq_nil_iff.mpr λk c=>?_
  have b:k<n:=by have:=acS.mp c;rwa [dO] at this
  unfold gw;rw[fK b,fK b,eq k b];simp
def uy(a:List Int)(k:Int)(x:Nt):Bool:=decide (x.2.2.1=k)&&(decide (x.2.2.2=gI a k)&&decide (gI a x.1<=x.2.1))
theorem BW(e:List Int)(k:Nat):∀ns:List Nt,gF ns e k=ns.filter (uy e k)
 | []=>rfl
 | (a,b,c,d)::r=>by
   have f:=BW e k r;unfold gF cR at f ⊢;rw[acT,acT];unfold uy at f ⊢;dsimp only
   by_cases q1:c=(k:Int)
   .by_cases q2:d=gI e k
    .subst q1 q2
     rw[aaO rfl,aaO rfl];simp only[Bool.and_self,Bool.true_and,if_true,List.map_cons,acT]
     by_cases q3:b<gI e a
     .rw[aaP (show ¬gI e a<=b by lia)]
      rw[adp (show ¬(!decide ((ft (a,b,(k:Int),gI e k)).2<gI e (ft (a,b,(k:Int),gI e k)).1))=true by show ¬(!decide (b<gI e a))=true;rw[aaO q3];decide),adp aaT];exact f
     .rw[aaO (show gI e a<=b by lia)]
      rw[adq (show (!decide ((ft (a,b,(k:Int),gI e k)).2<gI e (ft (a,b,(k:Int),gI e k)).1))=true by show (!decide (b<gI e a))=true;rw[aaP q3];rfl),adq rfl];exact congrArg ((a,b,(k:Int),gI e k) :: ·) f
    .rw[aaP q2]
     simp only[Bool.and_false,Bool.false_and];exact f
   .rw[aaP q1]
    simp only[Bool.false_and];exact f
inductive yV(CR CW CH CO CE:Addr)(K:zzy)(vs:List V)(H:Hp)(Q:VK)(dY:XK):Prop|m:∀(i ii:Nat)(τ:Tg)(R:CZ)(S:dD)(cs gs:List Int)(ns:List Nt)(k:Nat),vs=[.ref R.o,.int k]->kE CR CW CH i ii τ H R S cs ns gs->S.ts.length<=9000->k<cs.length->((gw S cs gs k=true /\ ∀e H',H' e=some (XO CO none e)->Same H H'->Q (.ref e) H')\/(∃x,gw S cs gs k=false/\(gF ns gs k)[0]?=some x /\ ∀e d p H',H' e=some (XO CE (some d) e)->H' d=some (.xd [("note",.ref p)])->Dat H' (.ref p) (nD x)->Same H H'->Q (.ref e) H'))->yV CR CW CH CO CE K vs H Q dY
theorem Vq(F:fU K "_law_refusal" "_law_refusal" ug f fd){J:Addr}(fP:yx K cZ J true)(fQ:yx K bQ J true)(V:jM P w K mg base 8 aC "turn" ["self","hand"] (uT aC ak aq bw cZ bQ K))(N:Xo K mg bW J "NoteError" true)(aM:dF K aC)(Bt:lZ mg):bN P w K mg base ig 9 f fd ["one","hand"] (yV aC ak aq cZ bQ K):=by
 refine F.ok mH (λO H Q E h=>?_) (λa0 A B s H O Q E W h=>?_)
 .obtain⟨i,D,u,R,S,t,I,C,j,rfl,_⟩:=h
  rfl
 .obtain⟨i,D,u,R,S,t,I,C,j,rfl,r,M,kl,c⟩:=h
  refine⟨_,(aA (bH (i:=2) mH.nd rfl (Or.inl rfl) j7)
   (aA (abH (i:=3) rfl rfl rfl rfl mH.nd rfl rfl oZR N.bd N.hd (λ_ _ _ _ hR=>(aJ (cL (oE V aM.cls rfl hR (W.mono DZ) (pv 0) (aj (pv 1) au))))) (λ_=>(aJ (bH (i:=2) mH.nd rfl (Or.inl rfl) (pv 3)))))
   (aJ (aZ (pv 2))))),?_⟩
  have l:ux (j:Int) t.length:=⟨LZ,LZ⟩;have one:∀a:Nat,(j:Int)=a->a=j:=λa e=>by lia
  rcases c with ⟨n,k⟩|⟨x,n,ex,k⟩
  .refine⟨_,Z,R.o,R.dx,_,Z,r.o,Z,_,Z,i,D,u,R,S,t,I,C,j,Z,r,M,λa x p d L b m g=>adt g (by rw[one a b,n];decide),λa y U T L b m g=>adt g (by rw[one a b,n];decide),λz=>adt l z,λa b m g=>⟨_,Z,fP.sub,λe G=>?_⟩⟩
   exact⟨_,Z,_,Z,k e _ ao (aH G)⟩
  .refine⟨_,Z,R.o,R.dx,_,Z,r.o,Z,_,Z,i,D,u,R,S,t,I,C,j,Z,r,M,λa x' p d L b m g q X Y dp y=>⟨_,Z,fQ.sub,λe G=>?_⟩,λa y U T L b m g q=>adt ex (by rw[←one a b,q];simp),λz=>adt l z,λa b m g=>adt g (by rw[one a b,n];decide)⟩
   obtain rfl:=one a b;rw[ex] at q;cases q;have v:=aH (o:=XO bQ (some d) e) G;exact⟨_,Z,_,Z,k e d p _ ao (v _ _ Y) (dp.same v _) (y.trans v)⟩
inductive oZ(CW CH:Addr)(K:zzy)(vs:List V)(H:Hp)(Q:VK)(dY:XK):Prop|m:∀(j:Nat)(τ:Tg)(W:rE)(U:dD),vs=[.ref W.o,.int (U.hs.length:Int)]->j9 CW CH j τ H W U->U.ts.length<=10000->U.hs.length<=8->(∀H',Same H H'->Q .non H')->(∀(k:Nat)(s:bJ)(r:Rw)(H':Hp),U.hs[k]?=some s->s.st = "waits" -> s.rws[s.pos]?=some r->touch r=true->j9 CW CH j τ H' W (cG U k)->k_ j τ H H'->Q .non H')->oZ CW CH K vs H Q dY
theorem GC(F:fU K "_law_turned_on" "_law_turned_on" pF f fd)(gR:MethAt P w K mg base 4 ak "how" ["self","hand"] (λvs H Q _=>yh ak aq bw K vs H Q λ_ _ _=>False))(jj:MethAt P w K mg base 7 ak "turn" ["self","hand"] (λvs H Q _=>wL ak aq bw cZ K vs H Q λ_ _ _=>False))(J:cD K ak)(Bt:lZ mg):bN P w K mg base ig 9 f fd ["works","hands"] (oZ ak aq K):=by
 refine F.ok tU (λvs H Q E h=>?_) (λa0 A r s H vs Q E x h=>?_)
 .obtain⟨j,C,W,U,rfl,_⟩:=h
  rfl
 .obtain⟨j,C,W,U,rfl,w,S,Y,k0,k1⟩:=h
  have X:=x.units
  refine⟨_,(aA (mL (i:=2) rfl tU.nd rfl (Or.inl rfl) (N:=["k","works"]) (own:=["k"]) (caps:=[0]) (bA.of (by kernel_rfl)) (cN oZR Bt.dH (aj (pv 1) au)) (λ_ _ _ _=>(bI (i:=0) (show List.Nodup (["k","works"]:List Str) by decide +kernel) rfl (Or.inl rfl))) (λ_ _ _ _=>(vq (bD dZ (cu gR J.cls (x.mono DZ) (pv 1) (aj (pv 0) au)) bO (bh _)))) (λ_ _ _ _=>(pv 0)))
   (aJ (bY (bD (Ov (K:=K) rfl X) (pv 2) (cP au) (bh _)) (aJ (cL (cu jj J.cls (x.mono DZ) (pv 0) (aj (aP (aO (K:=K) rfl) (pv 2) aG (λ_ _=>rfl)) au)))) bG))),?_⟩
  refine⟨_,Z,_,Z,LZ,LZ,λL y=>?_⟩;rw[abf];show iu _ _ _ _ _ _ (none::[some (.ref W.o)]) H;refine adS w Y y λH1 n e1=>?_;refine⟨_,Z,by show 0<=sizeLine;exact Nat.zero_le _,λp hp=>?_⟩;have c:=aH (o:=HO.lst []) hp;have I:(upd H1 p (.lst [])) p=some (.lst []):=ao;have a:=c _ _ e1;generalize upd H1 p (.lst [])=H2 at c I a ⊢;have B:H2 L=some (.lst (((qu U.hs).map λk:Nat=>(k:Int)).map V.int)):=by rw[a,acr];rfl
  have D:=(w.same n).same c;refine⟨_,_,bZ B,bZ (ns:=[]) I,shaped_ints _,shaped_ints [],_,Z,?_⟩;cases q:qu U.hs with
  | nil=>
    rw[adq (show true=true from rfl),jR PyData.int pR];refine cW ?_;exact k0 _ (n.trans c)
  | cons b rest=>
    rw[q] at a;rw[adq (show true=true from rfl),jR PyData.int pR];refine eO ?_;obtain⟨hs,d,l⟩:=DQ (z:=0) (k:=b) (by rw[q];rfl);have kl:=(aam.mp d).1;have u:ux (b:Int) U.hs.length:=⟨LZ,LZ⟩;refine⟨_,Z,W.o,W.dx,_,Z,D.o,Z,_,Z,L,_,_,_,Z,Z,bF.of a,cj (j:=0) (xs:=(b::rest).map λk:Nat=>V.int (k:Int)) (v:=V.int (b:Int)) rfl,j,C,W,U,_,Z,D,S,λe G T t H8 q1 g M er R tf tk O m=>?_,λz=>adt u z,λe G q1 g nw=>?_⟩
    .have:e=b:=by lia
     subst this;exact k1 e G T H8 g M er R O ((k_.of_same (n.trans c)).trans m)
    .have:e=b:=by lia
     subst this;rw[d] at g;cases g;exact adt l nw
theorem NK{S S1:dD}{l:List Tc}(R:Run S l S1){a:Nat}{x:Tc}(e:l[a]?=some x):∀(d:Nat)(o:List Nat)(T:dD),l.length-o.length<=d->yF l o->Run S (pick l o) T->a∉o->(∀m y,m<a->l[m]?=some y->y.k=x.k->m∈o)->jN T.hs x.k=true
 | d,o,T,A,O,RT,na,q=>by
   have lt:o.length<l.length:=Nat.lt_of_le_of_ne (by have:=O.rest.1;lia) λz=>na (O.whole z a (aam.mp e).1);obtain⟨m,y,b,g,nm,n⟩:=O.left lt;have c:=R.next g b RT;obtain⟨s,f,j,h,_⟩:=id c;rcases Nat.lt_trichotomy m a with w|w|w
   .have k:y.k≠x.k:=λz=>nm (q m y w b z)
    have t:pick l (o++[m])=pick l o++[y]:=by rw[jP,jz b];rfl
    have v:Run S (pick l (o++[m])) (cG T y.k):=by rw[t];exact Run.app.mpr ⟨T,RT,c,Z⟩
    cases d with
    | zero=>lia
    | succ d=>
      have:=NK R e d (o++[m]) (cG T y.k) (by rw[aa1,acj];lia) g v (λz=>by
       rcases abA.mp z with z|z
       .exact na z
       .have:=ab7.mp z;lia) λi z p r u=>List.mem_append_left _ (q i z p r u)
      rw[jO f h] at this;unfold jN at this ⊢;rwa [show (T.hs.set y.k (lO T.ns s y.r))[x.k]?=T.hs[x.k]? from List.getElem?_set_ne k] at this
   .subst w
    rw[e] at b;cases b;unfold jN;rw[f];exact aaO j
   .exact adt (n a w) na
structure C55(S0 S1:dD)(l:List Tc)(n:Nat)(gW ns:List Nt):Prop where
 R:Run S0 l S1
 tch:∀x∈l,touch x.r=true
 hn:∀x∈l,x.k<n
 N:Fq l true gW
 pm:ns.Perm gW
 sr:M6 ns
 n8:n<=8
 l50:l.length<=50
 h0:S0.hs.length=n
 t0:S0.ts.length<=20
 g0:jW S0
 m0:S0.m<=100
 nl:gW.length<=5000
structure C_(CR CW CH:Addr)(i ii q:Nat)(τ:Tg)(H:Hp)(S0:dD)(l:List Tc)(n:Nat)(ns:List Nt)(R:CZ)(T:dD)(o:List Nat)(g:Addr):Prop where
 rp:kE CR CW CH i ii τ H R T (fj l n) ns (fj (pick l o) n)
 eg:H g=some (.lst ((fj (pick l o) n).map V.int))
 tg:τ g=[q]
 O:yF l o
 run:Run S0 (pick l o) T
section
variable{CR:Addr}{q:Nat}{S0 S1:dD}{gW ns:List Nt}{R:CZ}{T:dD}{o:List Nat}{g:Addr}
theorem C_.mv(u:C_ CR CW CH i ii q τ H S0 l n ns R T o g)(m:∀j,j=i\/j=ii\/j=q->Mv j τ H τ' H')(un:rF τ' H'):C_ CR CW CH i ii q τ' H' S0 l n ns R T o g:=by have e:=(m q (.inr (.inr rfl))).keep _ _ u.eg (.inr (by rw[u.tg];rfl));exact⟨u.rp.mv (m i (.inl rfl)) (m ii (.inr (.inl rfl))) un,e.1,e.2.trans u.tg,u.O,u.run⟩
theorem C_.same(u:C_ CR CW CH i ii q τ H S0 l n ns R T o g)(s:Same H H'):C_ CR CW CH i ii q τ H' S0 l n ns R T o g:=u.mv (λ_ _=>Mv.of_same s) (u.rp.w.un.same s)
def C55.pick(c:C55 S0 S1 l n gW ns):∀x∈pick l o,x.k<n:=λx a=>by obtain⟨i,_,e⟩:=List.mem_filterMap.mp a;exact c.hn x (aaN e)
theorem C_.ts(u:C_ CR CW CH i ii q τ H S0 l n ns R T o g)(c:C55 S0 S1 l n gW ns):T.ts.length<=70:=by have e:(Prf.pick l o).length=o.length:=u.O.rest.2;have:=u.O.rest.1;have:=c.l50;have:=c.t0;rw[Gq u.run,aa1,aak,e];lia
def C_.le(u:C_ CR CW CH i ii q τ H S0 l n ns R T o g)(h:k<n):kc (Prf.pick l o) k<=kc l k:=by have:=(u.rp.dn.2 k LZ (by rw[dO];lia)).2;rw[fK h,fK h] at this;lia
def C_.nxt(u:C_ CR CW CH i ii q τ H S0 l n ns R T o g)(c:C55 S0 S1 l n gW ns)(h:kc (Prf.pick l o) k<kc l k):jN T.hs k=true:=by obtain⟨a,x,d,rfl,ca,_⟩:=vH h;refine NK c.R d _ o T (aav _) u.O u.run (λz=>by have:=(u.O.cnt d).mp z;lia) λm y e b f=>(u.O.cnt b).mpr ?_;have:=BP e b;rw[f] at this ⊢;lia
def C_.ov(u:C_ CR CW CH i ii q τ H S0 l n ns R T o g)(c:C55 S0 S1 l n gW ns)(h:k<n):gw T (fj l n) (fj (Prf.pick l o) n) k=decide (kc (Prf.pick l o) k=kc l k):=by
 unfold gw;rw[fK h,fK h]
 by_cases z:kc (Prf.pick l o) k=kc l k
 .rw[aaO LZ,aaO z];rfl
 .have:=u.le h
  rw[aaP LZ,aaP z,u.nxt c LZ];rfl
end
structure B55(τ:Tg)(H:Hp)(r:Addr)(l:List Tc)(tl:Addr)(tls:List Addr)(n:Nat)(sm:Addr)(gW:List Nt):Prop where
 T:RT τ H r
 et:H tl=some (.lst (tls.map V.ref))
 tt:τ tl=[9]
 nt:tls.length=n
 ps:∀k p,tls[k]?=some p->τ p=[9] /\ ∃us,H p=some (.lst us)/\aV H us ((l.filter λt=>t.k=k).map KJ)
 N:mW H sm gW
 ts:τ sm=[9]
section
variable{r:Addr}{gW:List Nt}
def B55.mv(u:B55 τ H r l tl tls n sm gW)(q:RT τ' H' r)(a:∀x o,H x=some o->τ x=[9]->H' x=some o/\τ' x=[9])(tup:∀x xs,H x=some (.tup xs)->H' x=some (.tup xs)):B55 τ' H' r l tl tls n sm gW:=by
 obtain⟨g,j,m⟩:=u.N;have f:=a _ _ u.et u.tt;have c:=a _ _ j u.ts
 exact⟨q,f.1,f.2,u.nt,λk p h=>by obtain⟨t,i,e,d⟩:=u.ps k p h;have b:=a _ _ e t;exact⟨b.2,i,b.1,aV.keep tup _ (vJ _) d⟩,⟨g,c.1,aV.keep tup _ (cI _ qZ _) m⟩,c.2⟩
theorem B55.same(u:B55 τ H r l tl tls n sm gW)(s:Same H H'):B55 τ H' r l tl tls n sm gW:=u.mv (u.T.same s) (λ_ _ e t=>⟨s _ _ e,t⟩) s.tups
theorem B55.made(u:B55 τ H r l tl tls n sm gW)(s:Same H H')(a:∀x o,H x=some o->τ' x=τ x)(un:rF τ' H'):B55 τ' H' r l tl tls n sm gW:=u.mv (u.T.made s a un) (λ_ _ e t=>⟨s _ _ e,(a _ _ e).trans t⟩) s.tups
theorem B55.stp{i:Nat}(u:B55 τ H r l tl tls n sm gW)(a:i≠9)(s:k_ i τ H H'):B55 τ H' r l tl tls n sm gW:=u.mv (u.T.stp s) (λ_ _ e t=>⟨s.keep _ _ e (by rw[t];intro z;exact a (aaY z).symm),t⟩) s.tup
def B55.row(u:B55 τ H r l tl tls n sm gW)(h:k<n):∃p us,yP (tls.map V.ref) (k:Int)=some (.ref p)/\H p=some (.lst us)/\us.length=kc l k/\aV H us ((l.filter λt=>t.k=k).map KJ):=by obtain⟨p,a⟩:∃p,tls[k]?=some p:=⟨_,aal (by rw[u.nt];exact h)⟩;obtain⟨_,us,e,d⟩:=u.ps k p a;exact⟨p,us,cj (by rw[aap,a];rfl),e,by rw[d.length,aak];rfl,d⟩
end
theorem Pj:∀a b:List Int,Tim.iM a b=HT.lexLt a b
 | [],[]=>by simp[Tim.iM,HT.lexLt]
 | [],_::_=>by simp[Tim.iM,HT.lexLt]
 | _::_,[]=>by simp[Tim.iM,HT.lexLt]
 | x::a,y::b=>by rw[HT.pL,←Pj a b];simp[Tim.iM]
def Q9{a hs:List Nt}{x:Nt}(pm:hs.Perm a)(f:M6 hs)(c:Nat->List Int)(d:∀j y,a[j]?=some y->c j=nK y)(ex:a[i]?=some x)(k:fB c a.length i):hs[0]?=some x:=by
 cases hs with
 | nil=>
   have:=pm.length_eq;have:=(aam.mp ex).1;simp at *;lia
 | cons h r=>
   have b:x∈h::r:=pm.mem_iff.mpr (aaN ex);have g:h∈a:=pm.mem_iff.mp (.head _);obtain⟨j,e⟩:=List.getElem?_of_mem g;have m:=(k j (aam.mp e).1).1;rw[d _ _ e,d _ _ ex] at m;rcases List.mem_cons.mp b with rfl|b
   .rfl
   .have:=(List.pairwise_cons.mp f).1 x b
    rw[←Pj] at m;exact congrArg some (aci (Tim.Ju _ _ m this))
theorem aew(x:Nt):SQ (n+2) (nD x):=by refine⟨by show 4<=20000;decide,λd a=>?_⟩;simp only[List.mem_cons,List.not_mem_nil,or_false] at a;rcases a with rfl|rfl|rfl|rfl<;>trivial
def Nx(l:List Tc)(T:dD)(o:List Nat)(c:dD)(a:List Nat):Prop:=(a=o/\c=T) \/ ∃b x,l[b]?=some x/\a=o++[b]/\c=cG T x.k/\Qm T x
inductive rW(CR CW CH:Addr)(K:zzy)(vs:List V)(H:Hp)(Q:VK)(dY:XK):Prop|m:∀(i ii q n:Nat)(τ:Tg)(r tl sm g:Addr)(tls:List Addr)(R:CZ)(T S0 S1:dD)(l:List Tc)(o:List Nat)(gW ns:List Nt)(h:Nat),vs=[.ref R.o,.ref tl,.ref g,.int h,.ref sm]->B55 τ H r l tl tls n sm gW->C_ CR CW CH i ii q τ H S0 l n ns R T o g->C55 S0 S1 l n gW ns->h<n->(∀H',Same H H'->Q (.bl true) H')->rW CR CW CH K vs H Q dY
theorem Ld(F:fU K "_law_refused" "_law_refused" uf f fd)(j8:Xr K mg cZ "Over")(X:Xf K mg bQ "Held" "note")(CQ:FnAt P w K mg base 9 "_law_refusal" ["one","hand"] (yV aC ak aq cZ bQ K))(iB:FnAt P w K mg base 5 "_law_alike" ["found","due"] (mD 4 K))(Bt:lZ mg):bN P w K mg base ig 10 f fd ["one","touches","gone","hand","some"] (rW aC ak aq K):=by
 refine F.ok mG (λvs H Q E h=>?_) (λa8 A a5 s H vs Q E Y h=>?_)
 .obtain⟨i,ii,q,n,τ,r,tl,sm,g,a3,R,T,S0,S1,l,o,B,L,m,rfl,_⟩:=h
  rfl
 .obtain⟨i,ii,q,n,τ,r,tl,sm,g,a3,R,T,S0,S1,l,o,B,L,m,rfl,b,u,c,hn,k⟩:=h
  have oJ:=Y.units;have n8:=c.n8;have gl:=dO (pick l o) n;have cl:=dO l n;have QB:=u.ts c
  refine⟨_,(aA (bY (bD dZ (aP (aO (K:=K) rfl) (pv 2) (pv 3) (λ_ _=>rfl)) (aU (aW (K:=K) rfl) oZR Bt.dR cH (aj (aP (aO (K:=K) rfl) (pv 1) (pv 3) (λ_ _=>rfl)) au)) (bh _)) (aJ (aZ (aU (J9 (K:=K) (c:= .ref cZ) (cv:= .ref cZ) rfl (λ_ h=>h)) oZR Bt.bM bL (aj (bK CQ (Y.mono DZ) oZR (aj (pv 0) (aj (pv 3) au))) (aj (jH (v:= .ref cZ) oZR j8.bd rfl) au))))) bG)
   (aA (bH (i:=5) mG.nd rfl (Or.inl rfl) (cP au))
   (aA (iI PassesOwn.never rfl (cQ (K:=K) rfl (pv 4)) (bI (i:=6) mG.nd rfl (Or.inl rfl))
   (aJ (bY (PW.pt (xu (bD dZ (aP (aX (K:=K) rfl) (pv 6) aG (λ_ _=>rfl)) (pv 3) (bh _)) (xu (bD dZ (aP (aX (K:=K) rfl) (pv 6) aG (λ_ _=>rfl)) (aP (aO (K:=K) rfl) (pv 2) (pv 3) (λ_ _=>rfl)) (bh _)) (vp (bD aay (aP (aO (K:=K) rfl) (pv 2) (aP (aX (K:=K) rfl) (pv 6) aG (λ_ _=>rfl)) (λ_ _=>rfl)) (aP (aX (K:=K) rfl) (pv 6) aG (λ_ _=>rfl)) (bh _)))))) (aJ (cL (fW (K:=K) rfl (pv 5) (aj (pv 6) au)))) bG)))
   (aA (bY (bD (pJ (K:=K) rfl oJ) (pv 5) (cP au) (bh _)) (aJ (aZ j_)) bG)
   (aA (bH (i:=7) mG.nd rfl (Or.inl rfl) (bK CQ (Y.mono DZ) oZR (aj (pv 0) (aj (pv 3) au))))
   (aJ (aZ (jA (aU (J9 (K:=K) (c:= .ref bQ) (cv:= .ref bQ) rfl (λ_ h=>h)) oZR Bt.bM bL (aj (pv 7) (aj (jH (v:= .ref bQ) oZR X.bd rfl) au))) (iZ (bK iB (Y.mono DZ) oZR (aj (YM (K:=K) rfl (pv 7) rfl) (aj (aU (Mu (K:=K) rfl rfl Y.aa8) oZR Bt.aaU W9 (aj (pv 5) au)) au)))))))))))),?_⟩
  obtain⟨p,us,ap,ep,lu,du⟩:=b.row hn;have gx:gI (fj (pick l o) n) m=kc (pick l o) m:=fK hn;have ov:=u.ov c hn;have le:=u.le hn;refine⟨_,Z,_,Z,_,_,_,_,Z,Z,bF.of u.eg,iT LZ LZ,_,Z,_,Z,tl,_,_,_,Z,Z,bF.of b.et,ap,p,us,Z,.inl (bF.of ep),?_⟩;have W:∀y∈B,aac (fj l n) y:=λy hy=>u.rp.ok.2.2 y (c.pm.mem_iff.mpr hy);rw[gx,lu];refine⟨Z,_,Z,?_⟩
  by_cases q1:kc (pick l o) m=kc l m
  .rw[aaO (by rw[q1])]
   refine eO ?_;exact⟨_,Z,_,Z,i,ii,τ,R,T,_,_,L,m,Z,u.rp,LZ,LZ,.inl ⟨by rw[ov,aaO q1],λe H' ee s'=>⟨e,_,[],true,Z,.inl ⟨ee,Z⟩,j8.xc,Jy,k H' s'⟩⟩⟩
  rw[aaP (λz=>q1 (by have:=V.int.inj z;lia))];refine cW ?_;have eo:gw T (fj l n) (fj (pick l o) n) m=false:=by rw[ov,aaP q1]
  clear ov le ap ep lu du;unfold Ir;dsimp only;obtain⟨vs,hs,dv⟩:=id b.N;have vl:vs.length=B.length:=by rw[dv.length,aak]
  refine⟨sZ0,λa ha=>?_⟩;have sa:=aH (o:=HO.lst []) ha;dsimp only[bV];refine⟨_,Z,sm,Z,⟨_,bF.of (sa _ _ hs)⟩,?_⟩
  refine vO (K:=K) (a:=sm) (xs:=vs) (λi σ H2=>∃(x:Option V),σ=[some (.ref R.o),some (.ref tl),some (.ref g),some (.int m),some (.ref sm),some (.ref a),x,none]/\Same H H2/\mW H2 a ((B.take i).filter (uy (fj (pick l o) n) m)))
   ⟨none,Z,sa,[],ao,by simp[aV]⟩ (λi σ H2 _ ⟨_,_,D,_⟩=>bF.of (D _ _ hs)) ?_ ?_
  .rintro i v σ H2 hi ⟨x0,rfl,D,I,S,N⟩
   obtain⟨x,t,ex,rfl,hx⟩:=sJ dv hi;have C:=D _ _ hx;have a0:=D _ _ u.eg;have tk:B.take (i+1)=B.take i++[x]:=by rw[acq,ex];rfl
   obtain⟨⟨h0,h1⟩,⟨k0,k1⟩,⟨o0,o1⟩,⟨m0,m1⟩,a7⟩:=W x (aaN ex);have il:i<B.length:=(aam.mp ex).1;have nl:=c.nl
   have wl:I.length<=i:=by rw[N.length,aak];have:=List.length_filter_le (uy (fj (pick l o) n) m) (B.take i);rw[acH] at this;lia
   have no:uy (fj (pick l o) n) m x=false->(B.take (i+1)).filter (uy (fj (pick l o) n) m)=(B.take i).filter (uy (fj (pick l o) n) m):=λe=>by rw[tk,ado,acT,e];simp
   have yes:uy (fj (pick l o) n) m x=true->(B.take (i+1)).filter (uy (fj (pick l o) n) m)=(B.take i).filter (uy (fj (pick l o) n) m)++[x]:=λe=>by rw[tk,ado,acT,e];simp
   dsimp only[bV];refine⟨_,Z,_,_,_,_,Z,Z,cC.of C,Z,_,Z,Z,_,Z,?_⟩
   by_cases q1:x.2.2.1=(m:Int)
   .rw[aaO (by rw[q1])]
    refine eO ?_;refine⟨_,Z,_,_,_,_,Z,Z,cC.of C,Z,_,Z,_,Z,_,_,_,_,Z,Z,bF.of a0,iT LZ LZ,Z,_,Z,?_⟩
    by_cases q2:x.2.2.2=gI (fj (pick l o) n) m
    .rw[aaO (by rw[q2])]
     refine eO ?_;refine⟨_,Z,_,Z,_,_,_,_,Z,Z,cC.of C,Z,_,_,_,_,Z,Z,bF.of a0,iT LZ LZ,_,Z,_,_,_,_,Z,Z,cC.of C,Z,_,_,Z,Z,_,Z,?_⟩;refine cV (λq3=>?_) (λq3=>?_)
     .refine⟨_,Z,.inl ⟨Z,_,bF.of S⟩,_,Z,a,I,_,Z,Z,S,(by rw[sizeLine_eq];lia),?_⟩
      have tup:∀y ys,H2 y=some (.tup ys)->(upd H2 a (.lst (I++[V.ref t]))) y=some (.tup ys):=λy ys e=>by rw[aF (dG e S ZN)];exact e
      refine⟨_,Z,λy o e=>by rw[aF (aB e ha)];exact D _ _ e,_,ao,?_⟩;rw[yes (by unfold uy;rw[aaO q1,aaO q2];exact q3),abd];exact aV.append (aV.keep tup _ (cI _ qZ _) N) (aaS (Cg (tup _ _ C)))
     .refine⟨_,Z,D,I,S,?_⟩
      rw[no (by unfold uy;rw[aaO q1,aaO q2];exact Bool.eq_false_iff.mpr q3)];exact N
    .rw[aaP (λz=>q2 (V.int.inj z))]
     refine cW ?_;refine⟨_,Z,D,I,S,?_⟩;rw[no (by unfold uy;rw[aaP q2];simp)];exact N
   .rw[aaP (λz=>q1 (V.int.inj z))]
    refine cW ?_;refine⟨_,Z,D,I,S,?_⟩;rw[no (by unfold uy;rw[aaP q1];simp)];exact N
  .rintro σ H2 ⟨x0,rfl,D,N2⟩
   rw[vl,acg] at N2;obtain⟨O,M⟩:∃O,O=B.filter (uy (fj (pick l o) n) m):=⟨_,Z⟩
   have U:(gF L (fj (pick l o) n) m).Perm O:=by rw[BW,M];exact c.pm.filter _
   have a4:M6 (gF L (fj (pick l o) n) m):=by rw[BW];exact List.Pairwise.filter _ c.sr
   rw[←M] at N2;clear M W hs dv vl sa ha;refine⟨_,Z,sZ0,λem a6=>?_⟩;have J:=aH (o:=HO.lst []) a6;have s3:=D.trans J;have a2:(upd H2 em (.lst [])) em=some (.lst []):=ao;have N3:=N2.same J;generalize (upd H2 em (.lst []))=H3 at J s3 a2 N3 ⊢;obtain⟨I,el,N⟩:=id N3;refine⟨_,_,oM el N,oM a2 (ds:=([]:List Nt).map nD) (by simp[aV]),Aj _,Aj _,_,Z,?_⟩;rw[adp aaT,jR nD acQ];cases q2:O with
   | nil=>
     rw[aaO rfl];refine eO ?_;exact k _ s3
   | cons x0 xr=>
     rw[aaP MZ];refine cW ?_
     have G:∃h0,(gF L (fj (pick l o) n) m)[0]?=some h0:=by have:=U.length_eq;rw[q2] at this;exact⟨_,aal (by rw[this];simp)⟩
     obtain⟨h0,G⟩:=G;have u3:=u.same s3;dsimp only[bV];refine⟨_,Z,_,Z,i,ii,τ,R,T,_,_,L,m,Z,u3.rp,LZ,LZ,.inr ⟨h0,eo,G,λe d p H4 ee a1 dp s4=>?_⟩⟩;have N4:=N3.same s4;obtain⟨w4,e4,d4⟩:=id N4;dsimp only[bV];refine⟨_,Z,e,bQ,_,true,Z,.inr ⟨d,ee,a1⟩,X.xc,Jy,true,Z,eO ?_⟩;refine⟨_,Z,e,bQ,d,_,_,Z,ee,a1,X.xc,X.dc,X.na,Z,_,Z,a,w4,λj=>((O[j]?).map nK).getD [],Z,bF.of e4,by rw[d4.length,q2];simp,λj v ev=>?_,λj t ev fm=>?_⟩
     .obtain⟨y,t,ey,rfl,ht⟩:=sJ d4 ev
      refine⟨t,Z,?_⟩;dsimp only;rw[ey];exact ht
     .obtain⟨y,t',ey,et,ht⟩:=sJ d4 ev
      cases et;have hx:(gF L (fj (pick l o) n) m)[0]?=some y:=Q9 U a4 (λj=>((O[j]?).map nK).getD []) (λj z ez=>by rw[ez];rfl) ey (by rw[d4.length,aak] at fm;exact fm);rw[G] at hx;cases hx;exact⟨_,_,_,Z,dp,Cg ht,aew _,λH6 s6=>k H6 ((s3.trans s4).trans s6)⟩
structure MP(i ii q:Nat)(τ τ':Tg)(H H':Hp):Prop where
 tg:∀x o,H x=some o->τ' x=τ x
 keep:∀x o,H x=some o->(τ x).head?≠some i->(τ x).head?≠some ii->(τ x).head?≠some q->H' x=some o
 tup:∀x xs,H x=some (.tup xs)->H' x=some (.tup xs)
 dom:∀x,H' x=none->H x=none
section
variable{q:Nat}{H1 H2:Hp}
def MP.made(s:Same H H')(t:∀x o,H x=some o->τ' x=τ x):MP i ii q τ τ' H H':=⟨t,λx o e _ _ _=>s _ _ e,s.tups,λx e=>s.free e⟩
theorem MP.stp(s:k_ j τ H H')(h:j=i\/j=ii\/j=q):MP i ii q τ τ H H':=⟨λ_ _ _=>rfl,λx o e a b c=>s.keep x o e (by rcases h with rfl|rfl|rfl<;>assumption),s.tup,s.dom⟩
theorem MP.trans(a:MP i ii q τ τ1 H H1)(b:MP i ii q τ1 τ2 H1 H2):MP i ii q τ τ2 H H2:=by
 have c:∀x o,H x=some o->τ2 x=τ1 x:=λx o e=>by
  cases z:H1 x with
  | none=>rw[a.dom x z] at e;cases e
  | some u=>exact b.tg x u z
 exact⟨λx o e=>(c x o e).trans (a.tg x o e),λx o e g f d=>b.keep x o (a.keep x o e g f d) (by rwa [a.tg x o e]) (by rwa [a.tg x o e]) (by rwa [a.tg x o e]),λx h e=>b.tup _ _ (a.tup _ _ e),λx e=>a.dom x (b.dom x e)⟩
def MP.mv(a:MP i ii q τ τ' H H')(hi:m≠i)(b:m≠ii)(d:m≠q)(c:i≠0)(f:ii≠0)(q0:q≠0):Mv m τ H τ' H':=⟨λx o e t=>⟨a.keep x o e (by
 rcases t with t|t<;>rw[t]<;>intro z<;>have:=aaY z<;>lia) (by
 rcases t with t|t<;>rw[t]<;>intro z<;>have:=aaY z<;>lia) (by
 rcases t with t|t<;>rw[t]<;>intro z<;>have:=aaY z<;>lia),a.tg x o e⟩,a.tup⟩
end
def GQ{Q:VK}{r:Addr}{i:List Nt}(b:B55 τ H r l tl tls n sm i)(h:H D=none)(t:n<=8)(f:∀(p:Addr)(us:List V)(H':Hp)(F:VK),H' p=some (.lst us)->F (.int us.length) H'->te [some (.ref p)] H' F)(k:∀H',H' D=some (.lst ((fj l n).map V.int))->Same H H'->Q (.ref D) H'):iu (XD K tl) (bV 0) uO te Q D [none] H:=by
 refine lR (K:=K) (λj=>some (.int (kc l j))) h (bF.of b.et) (by rw[aak,b.nt];lia) (λj v c G F a d u g=>?_) (λc d q=>?_)
 .rw[aap] at a
  obtain⟨p,o,rfl⟩:∃p,tls[j]?=some p/\v=.ref p:=by
   cases e:tls[j]? with
   | none=>rw[e] at a;cases a
   | some p=>rw[e] at a;exact⟨p,Z,(aaY a).symm⟩
  obtain⟨_,us,m,s⟩:=b.ps j p o;dsimp only[bV,uO];rw[adq rfl];refine f p us c _ (d _ _ m) ?_;rw[show us.length=kc l j by rw[s.length,aak];rfl];exact g _ c (Same.refl _) rfl
 .refine k c ?_ d
  rw[q,aak,b.nt];unfold fj;rw[acr,List.filterMap_eq_map'];rfl
inductive uR(CR CW CH:Addr)(K:zzy)(vs:List V)(H:Hp)(Q:VK)(dY:XK):Prop|m:∀(i ii q n:Nat)(τ:Tg)(r tl sm g:Addr)(tls:List Addr)(R:CZ)(T S0 S1:dD)(l:List Tc)(o:List Nat)(gW ns:List Nt)(h:Int),vs=[.ref R.o,.ref tl,.ref g,.int h]->B55 τ H r l tl tls n sm gW->C_ CR CW CH i ii q τ H S0 l n ns R T o g->C55 S0 S1 l n gW ns->i≠9->ii≠9->q≠9->q≠0->i≠q->ii≠q->(∀(τ':Tg)(H':Hp)(T':dD)(o':List Nat),B55 τ' H' r l tl tls n sm gW->C_ CR CW CH i ii q τ' H' S0 l n ns R T' o' g->MP i ii q τ τ' H H'->(o'.length=o.length+1\/o'.length=l.length)->Q (.bl true) H')->uR CR CW CH K vs H Q dY
theorem QM(F:fU K "_law_step" "_law_step" Gj f fd)(DG:MethAt P w K mg base 6 aC "free" ["self"] (yW aC ak aq K))(iH:MethAt P w K mg base 1 aC "counts" ["self"] (nW aC ak aq K))(nQ:MethAt P w K mg base 1 aC "done" ["self"] (uV aC ak aq K))(xY:MethAt P w K mg base 2 aC "__len__" ["self"] (FZ aC ak aq K))(nP:MethAt P w K mg base 8 aC "turn" ["self","hand"] (λvs H Q _=>uT aC ak aq bw cZ bQ K vs H Q λ_ _ _=>False))(iB:FnAt P w K mg base 5 "_law_alike" ["found","due"] (mD 4 K))(aM:dF K aC)(Bt:lZ mg):bN P w K mg base ig 9 f fd ["one","touches","gone","pick"] (uR aC ak aq K):=by
 refine F.ok qC (λvs H Q E h=>?_) (λi0 A h0 s H vs Q E O h=>?_)
 .obtain⟨i,G,q,n,X,r,tl,sm,g,g8,R,T,S0,S1,l,o,gW,ns,hd,rfl,_⟩:=h
  rfl
 .obtain⟨i,G,q,n,X,r,tl,sm,g,g8,R,T,S0,S1,l,o,gW,ns,hd,rfl,b,u,c,i9,h4,q9,q0,iq,a2,k⟩:=h
  have oJ:=O.units;have n8:=c.n8;have gl:=dO (pick l o) n;have cl:=dO l n;have QB:=u.ts c;have N':Fq l true ns:=λy=>c.pm.mem_iff.trans (c.N y);have ol:=u.O.rest.1
  refine⟨_,(aA (bH (i:=4) qC.nd rfl (Or.inl rfl) (bU DG aM.cls (O.mono DZ) (pv 0)))
   (aA (bY (bD (pJ (K:=K) rfl oJ) (pv 4) (cP au) (bh _)) (aJ (aZ (cU (pJ (K:=K) rfl oJ) (pv 2) (dB rfl (N:=["some"]) (own:=["some"]) (caps:=[]) (bA.of (by kernel_rfl)) (cQ (K:=K) rfl (pv 1)) (λ_ _ _ _=>(bI (i:=0) (show List.Nodup (["some"]:List Str) by decide +kernel) rfl (Or.inl rfl))) (λ_ _ _ _=>cO) (λ_ _ _ _=>(aU (aW (K:=K) rfl) oZR Bt.dR cH (aj (pv 0) au)))) (bh _)))) bG)
   (aA (bH (i:=5) qC.nd rfl (Or.inl rfl) (aP (aO (K:=K) rfl) (pv 4) (bR nH (pv 3) (aU (aW (K:=K) rfl) oZR Bt.dR cH (aj (pv 4) au))) (λ_ _=>rfl)))
   (aA (bY (PW.pt (mK (bD dZ (aP (aO (K:=K) rfl) (pv 2) (pv 5) (λ_ _=>rfl)) (aU (aW (K:=K) rfl) oZR Bt.dR cH (aj (aP (aO (K:=K) rfl) (pv 1) (pv 5) (λ_ _=>rfl)) au)) (bh _)) (lJ (fH (cX (bK iB (O.mono DZ) oZR (aj (cu nP aM.cls (O.mono DZ) (pv 0) (aj (pv 5) au)) (aj (aP (aO (K:=K) rfl) (aP (aO (K:=K) rfl) (pv 1) (pv 5) (λ_ _=>rfl)) (aP (aO (K:=K) rfl) (pv 2) (pv 5) (λ_ _=>rfl)) (λ_ _=>rfl)) au)))))))) (aJ (aZ j_)) bG)
   (aA (pH (bR i_ (aP (aO (K:=K) rfl) (pv 2) (pv 5) (λ_ _=>rfl)) aG) (qP (pv 2) (pv 5) set_list))
   (aA (bH (i:=6) qC.nd rfl (Or.inl rfl) (bU iH aM.cls (O.mono DZ) (pv 0)))
   (aA (bH (i:=7) qC.nd rfl (Or.inl rfl) (bR pI (aU (xU (K:=K) rfl rfl) oZR Bt.W_ Mx (aj (dB rfl (N:=["row"]) (own:=["row"]) (caps:=[]) (bA.of (by kernel_rfl)) (cQ (K:=K) rfl (pv 1)) (λ_ _ _ _=>(bI (i:=0) (show List.Nodup (["row"]:List Str) by decide +kernel) rfl (Or.inl rfl))) (λ_ _ _ _=>cO) (λ_ _ _ _=>(aU (aW (K:=K) rfl) oZR Bt.dR cH (aj (pv 0) au)))) au)) (aU (xU (K:=K) rfl rfl) oZR Bt.W_ Mx (aj (pv 2) au))))
   (aA (bY (PW.pt (mK (fH (cX (bK iB (O.mono DZ) oZR (aj (pv 6) (aj (pv 2) au))))) (mK (bD oG (aU (Fd xY (O.mono DZ)) oZR Bt.dR cH (aj (pv 0) au)) (pv 7) (bh _)) (lJ (fH (cX (bK iB (O.mono DZ) oZR (aj (bU nQ aM.cls (O.mono DZ) (pv 0)) (aj (cU dZ (pv 7) aG (bh _)) au))))))))) (aJ (aZ j_)) bG)
   (aA (cL (zm (K:=K) rfl PySem.F.plainAttrs_list PySem.F.slot_list_clear PySem.F.type_list_clear vB (pv 6)))
   (aA (cL (zm (K:=K) rfl PySem.F.plainAttrs_list PySem.F.slot_list_clear PySem.F.type_list_clear vB (pv 4)))
   (aJ (aZ (bK iB (O.mono DZ) oZR (aj (bU iH aM.cls (O.mono DZ) (pv 0)) (aj (pv 2) au))))))))))))))),?_⟩
  refine⟨_,Z,R.o,R.dx,_,Z,u.rp.o,Z,i,G,X,R,T,_,_,ns,Z,u.rp,λfr H1 a3 a6 s1=>?_⟩;obtain⟨I,B⟩:∃I,I=Ca T (fj l n) ns (fj (pick l o) n):=⟨_,Z⟩;rw[←B] at a6;have d7:fr≠g:=λz=>by rw[z,u.eg] at a3;cases a3
  have a0:∀x u,H x=some u->aQ X fr [q] x=X x:=λx u e=>aR (aB e a3);have c0:rF (aQ X fr [q]) H1:=u.rp.w.un.claim s1 ⟨_,a6⟩;have b1:=b.made s1 a0 c0;have u1:=u.mv (λ_ _=>Mv.tags s1 a0) c0;have z1:MP i G q X (aQ X fr [q]) H H1:=MP.made s1 a0;have a1:aQ X fr [q] fr=[q]:=bC;clear a0 c0 s1 a3 b u;generalize aQ X fr [q]=a at b1 u1 z1 a1;dsimp only[bV];refine⟨_,Z,sZ0,λem e5=>?_⟩;have M:=aH (o:=HO.lst []) e5;have d1:(upd H1 em (.lst [])) em=some (.lst []):=ao;have RG:(upd H1 em (.lst [])) fr=some (.lst ((I.map λk:Nat=>(k:Int)).map V.int)):=by rw[M _ _ a6,acr];rfl
  have b2:=b1.same M;have t:=u1.same M;have z2:=z1.trans (.made M λ_ _ _=>rfl);clear b1 u1 z1 M e5 a6;generalize (upd H1 em (.lst []))=H2 at d1 RG b2 t z2 ⊢;refine⟨_,_,bZ RG,bZ (ns:=[]) d1,shaped_ints _,shaped_ints [],_,Z,?_⟩;rw[adp aaT,jR PyData.int pR]
  by_cases q1:o.length=l.length
  .obtain⟨eg,fz⟩:=xP (ns:=ns) (T:=T) t.O q1 t.rp.dn
   rw[fz] at B;subst B;rw[aaO oZR];refine eO ?_;refine⟨_,Z,_,Z,tl,Z,⟨_,bF.of b2.et⟩,λD3 ZJ=>?_⟩;refine GQ b2 ZJ n8 (λp us H' F Y kF=>⟨_,Z,p,us,Z,.inl (bF.of Y),kF⟩) (λH3 e3 s3=>?_);refine⟨_,_,bZ (s3 _ _ t.eg),bZ e3,shaped_ints _,shaped_ints _,?_⟩;rw[adp aaT,jR PyData.int pR,aaO eg];exact k a H3 T o (b2.same s3) (t.same s3) (z2.trans (.made s3 λ_ _ _=>rfl)) (.inr q1)
  have lt:o.length<l.length:=by lia
  have a4:=Rx t.O c.hn N' lt c.R t.run;rw[←B] at a4;rw[show decide ((I.map λk:Nat=>(k:Int))=[])=false from aaP (by simpa using a4)];refine cW ?_;unfold Ir;dsimp only
  have f8:I.length<=8:=by rw[B];unfold Ca;refine adl (List.length_filter_le _ _) ?_;rw[List.length_range,cl];exact n8
  have f0:0<I.length:=List.length_pos_iff.mpr a4;have m0:0<=hd % (I.length:Int):=Int.emod_nonneg _ LZ;have m1:hd % (I.length:Int)<I.length:=Int.emod_lt_of_pos _ LZ;obtain⟨z,ez⟩:=adh m0;obtain⟨kk,ek⟩:∃kk,I[z]?=some kk:=⟨_,aal LZ⟩;obtain⟨kn,kf⟩:=acJ.mp (B▸aaN ek:kk∈Ca T (fj l n) ns (fj (pick l o) n));rw[acS,dO] at kn;rw[abt,Bool.not_eq_true',List.isEmpty_iff] at kf;refine⟨_,Z,_,Z,_,Z,fr,_,Z,.inl (bF.of RG),?_⟩;rw[aak,aak];refine⟨_,_,Z,Z,LZ,?_⟩;dsimp only;rw[ez];refine⟨fr,_,z,.int kk,Z,Z,bF.of RG,cj (by rw[aap,aap,ek];rfl),?_⟩;dsimp only[bV];clear ek m0 m1 ez a4 f8 f0 B d1;obtain⟨b0,x,eb,rfl,O',fx⟩:=Ry t.O c.tch c.hn N' kn (t.le kn) kf.1 kf.2;have a8:=c.R.next O' eb t.run;have gx:gI (fj (pick l o) n) x.k=kc (pick l o) x.k:=fK kn;have lx:kc (pick l o) x.k<kc l x.k:=(aam.mp fx).1;have e0:ux (x.k:Int) (fj l n).length:=⟨LZ,LZ⟩;have one:∀k':Nat,(x.k:Int)=k'->k'=x.k:=λk' e=>by lia
  obtain⟨p,us,ap,Y,lu,du⟩:=b2.row kn;refine⟨_,Z,_,Z,g,_,x.k,_,Z,Z,bF.of t.eg,iT LZ LZ,_,Z,_,Z,tl,_,x.k,_,Z,Z,bF.of b2.et,ap,p,us,Z,.inl (bF.of Y),?_⟩;rw[gx,lu];refine⟨Z,_,Z,?_⟩;rw[aaP (λz=>by have:=V.int.inj z;lia)];refine cW ?_;clear ap Y lu du;refine⟨_,Z,R.o,R.dx,_,Z,t.rp.o,Z,_,Z,i,G,a,R,T,_,_,ns,x.k,Z,t.rp,LZ,λk' x' p d H' e1 e2 e3 e4=>adt e4 (by rw[one k' e1,kf.2];simp),λk' s' r' t' H3 e1 e2 e3 h9 es g6 er tr tf tk d5 g9=>?_,λz=>adt e0 z,λk' e1 e2 e3=>adt e3 (by rw[one k' e1,kf.1];decide)⟩;obtain rfl:=one k' e1;obtain⟨Hm,L,J⟩:=g9
  have dt:Dat H3 (.ref t') (KJ x):=by obtain⟨s2,q1,q2,q3,q4,q5⟩:=a8;rw[es] at q1;cases q1;rw[er] at q3;cases q3;have:=RM tk;unfold zZ at this;unfold KJ;rw[q4,q5];exact this
  have pl:SQ 4 (KJ x):=by obtain⟨s2,q1,q2,q3,q4,q5⟩:=a8;have:=U_ (n:=2) T.ns s2.bs x.r;unfold zZ at this;unfold KJ;rw[q4,q5];exact this
  have b3:=(b2.stp i9 L).stp h4 J;have c5:∀m:Nat,m≠q->(a g).head?≠some m:=λm ne=>by rw[t.tg];intro z;exact ne (aaY z).symm
  have c6:∀m:Nat,m≠q->(a fr).head?≠some m:=λm ne=>by rw[a1];intro z;exact ne (aaY z).symm
  have d0:=J.keep _ _ (L.keep _ _ t.eg (c5 i iq)) (c5 G a2);have f7:=J.keep _ _ (L.keep _ _ RG (c6 i iq)) (c6 G a2);have z3:=(z2.trans (.stp L (.inl rfl))).trans (.stp J (.inr (.inl rfl)));have Ru:=t.run;have c3:=t.tg;clear c5 c6 RG z2 b2 t L J tk tr er es tf g6;obtain⟨p3,g7,f6,e9,h3,f5⟩:=b3.row kn;obtain⟨v3,e6,f4⟩:=f5.getD (i:=kc (pick l o) x.k) (d:=KJ x) (by rw[aap,fx];rfl);refine⟨_,Z,_,Z,tl,_,x.k,_,Z,Z,bF.of b3.et,f6,_,Z,_,Z,g,_,x.k,_,Z,Z,bF.of d0,iT LZ LZ,?_⟩;rw[gx];refine⟨p3,g7,_,v3,Z,Z,bF.of e9,cj e6,_,_,KJ x,Z,dt,f4,pl,λH4 s4=>⟨_,Z,cW ?_⟩⟩;dsimp only;have b4:=b3.same s4;have a5:=s4 _ _ d0;have f9:=s4 _ _ f7;have z4:=z3.trans (.made s4 λ_ _ _=>rfl);have c4:=d5.same s4;clear f6 e9 h3 f5 e6 f4 b3 d0 f7 z3 d5 s4 dt pl;refine⟨_,Z,_,Z,g,_,x.k,_,Z,Z,bF.of a5,iT LZ LZ,_,_,Z,Z,_,Z,_,Z,g,_,x.k,_,Z,Z,a5,zx LZ (by rw[aak];lia),?_⟩
  have e8:(List.map V.int (fj (pick l o) n)).set (x.k:Int).toNat ((λi j=>V.int (i+j)) (gI (fj (pick l o) n) x.k) 1)=List.map V.int (iW (fj (pick l o) n) x.k):=by unfold iW;rw[List.map_set];rfl
  rw[e8];have sg:k_ q a H4 (upd H4 g (.lst ((iW (fj (pick l o) n) x.k).map V.int))):=k_.set (by rw[c3];rfl) a5 XZ;have c7:(upd H4 g (.lst ((iW (fj (pick l o) n) x.k).map V.int))) g=some (.lst ((iW (fj (pick l o) n) x.k).map V.int)):=ao;have WK:(upd H4 g (.lst ((iW (fj (pick l o) n) x.k).map V.int))) fr=some (.lst ((I.map λk:Nat=>(k:Int)).map V.int)):=by rw[aF d7];exact f9
  clear e8 f9 a5;generalize upd H4 g (.lst ((iW (fj (pick l o) n) x.k).map V.int))=H5 at sg c7 WK ⊢;have Y:pick l (o++[b0])=pick l o++[x]:=by rw[jP,jz eb];rfl
  have eq:fj (pick l (o++[b0])) n=iW (fj (pick l o) n) x.k:=by rw[Y,JF kn]
  have U:C_ aC ak aq i G q a H5 S0 l n ns R (cG T x.k) (o++[b0]) g:=by refine⟨?_,by rw[eq];exact c7,c3,O',by rw[Y];exact Run.app.mpr ⟨T,Ru,a8,Z⟩⟩;rw[eq];exact c4.mv (Mv.dJ sg (Ne.symm iq) q0) (Mv.dJ sg (Ne.symm a2) q0) (sg.un c4.w.un)
  have b5:=b4.stp q9 sg;have z5:=z4.trans (.stp sg (.inr (.inr rfl)));have d6:(o++[b0]).length=o.length+1:=by rw[aa1];rfl
  clear b4 z4 c4 sg c7 Y eq a8 Ru c3 gx lx e0 one fx eb kf kn O';generalize cG T x.k=T' at U;generalize (o++[b0])=C at U d6;have h8:=dO (pick l C) n;clear gl QB ol;dsimp only[bV];refine⟨_,Z,R.o,R.dx,_,Z,U.rp.o,Z,i,G,a,R,T',_,_,ns,Z,U.rp,λD H6 W d3 s6=>?_⟩;have DY:∀x u,H5 x=some u->aQ a D [q] x=a x:=λx u e=>aR (aB e W);have a9:rF (aQ a D [q]) H6:=U.rp.w.un.claim s6 ⟨_,d3⟩;have b6:=b5.made s6 DY a9;have u6:=U.mv (λ_ _=>Mv.tags s6 DY) a9;have z6:MP i G q X (aQ a D [q]) H H6:=z5.trans (.made s6 DY);have d4:aQ a D [q] D=[q]:=bC;have g5:aQ a D [q] fr=[q]:=(DY _ _ WK).trans a1;have g0:=s6 _ _ WK;have h2:D≠g:=λz=>by rw[z,U.eg] at W;cases W
  have h1:fr≠D:=aB WK W;clear DY a9 s6 W b5 U z5 a1 WK;generalize aQ a D [q]=v at b6 u6 z6 d4 g5;dsimp only[bV];refine⟨_,Z,tl,Z,⟨_,bF.of b6.et⟩,λD3 ZJ=>?_⟩;refine GQ b6 ZJ n8 (λp us H' F Y kF=>⟨_,Z,p,us,Z,.inl (bF.of Y),kF⟩) (λH7 e7 s7=>?_)
  have S:(fj l n).sum-(fj (pick l C) n).sum=(l.length:Int)-(C.length:Int):=by rw[zy n _ l rfl c.hn,zy n _ (pick l C) rfl c.pick,u6.O.rest.2]
  have h6:=c.l50;have ol:=u6.O.rest.1;refine⟨D3,fj l n,Z,bF.of e7,_,Z,g,fj (pick l C) n,Z,bF.of (s7 _ _ u6.eg),_,_,Z,Z,?_⟩;have b7:=b6.same s7;have u7:=u6.same s7;have z7:=z6.trans (.made s7 λ_ _ _=>rfl);have g1:=s7 _ _ g0;have d2:=s7 _ _ d3;clear b6 u6 z6 g0 d3 s7 e7 ZJ;dsimp only[bV];rw[S];refine⟨_,Z,_,Z,_,_,eZ (fj (pick l C) n),Z,bZ d2,bZ u7.eg,SQ.ints LZ,λH8 s8=>⟨_,Z,cW ?_⟩⟩;have b8:=b7.same s8;have u8:=u7.same s8;have z8:=z7.trans (.made s8 λ_ _ _=>rfl);have g2:=s8 _ _ g1;have f3:=s8 _ _ d2;clear b7 u7 z7 g1 d2 s8;refine⟨_,Z,R.o,R.dx,_,Z,u8.rp.o,⟨i,G,v,R,T',_,_,ns,Z,u8.rp,λH9 s9=>⟨_,Z,LZ,LZ,?_⟩⟩⟩;rw[S];refine⟨_,Z,Z,_,Z,?_⟩;rw[aaO rfl];refine cW ?_;have b9:=b8.same s9;have u9:=u8.same s9;have z9:=z8.trans (.made s9 λ_ _ _=>rfl);have g3:=s9 _ _ g2;have f2:=s9 _ _ f3;clear b8 u8 z8 g2 f3 s9;refine⟨_,Z,R.o,R.dx,_,Z,u9.rp.o,Z,i,G,v,R,T',_,_,ns,Z,u9.rp,?_⟩
  have f1:decide (fj (pick l C) n=fj l n)=decide ((l.length:Int)-(C.length:Int)=0):=by
   rw[Bool.eq_iff_iff,decide_eq_true_iff,decide_eq_true_iff];constructor
   .intro z
    rw[z,Int.sub_self] at S;lia
   .intro z
    exact(xP (ns:=ns) (T:=T') u9.O LZ u9.rp.dn).1
  rw[f1];refine⟨_,Z,Z,_,_,.bool (decide ((l.length:Int)-(C.length:Int)=0)),Z,by simp only[Dat],by simp only[Dat,V.int.injEq],trivial,λHa sa=>⟨_,Z,cW ?_⟩⟩;have ba:=b9.same sa;have ua:=u9.same sa;have za:=z9.trans (.made sa λ_ _ _=>rfl);have g4:=sa _ _ g3;have a7:=sa _ _ f2;clear b9 u9 z9 g3 f2 sa f1;dsimp only;refine⟨_,Z,.inl ⟨Z,_,bF.of a7⟩,D,_,Z,Z,a7,?_⟩;have sC:k_ q v Ha (upd Ha D (.lst [])):=k_.set (by rw[d4];rfl) a7 XZ;have WD:(upd Ha D (.lst [])) fr=some (.lst ((I.map λk:Nat=>(k:Int)).map V.int)):=by rw[aF h1];exact g4
  have c9:(upd Ha D (.lst [])) g=some (.lst ((fj (pick l C) n).map V.int)):=by rw[aF (Ne.symm h2)];exact ua.eg
  generalize (upd Ha D (.lst []))=Hb at sC WD c9 ⊢;refine⟨_,Z,.inl ⟨Z,_,bF.of WD⟩,fr,_,Z,Z,WD,?_⟩;have sF:k_ q v Hb (upd Hb fr (.lst [])):=k_.set (by rw[g5];rfl) WD XZ;have c8:(upd Hb fr (.lst [])) g=some (.lst ((fj (pick l C) n).map V.int)):=by rw[aF (Ne.symm d7)];exact c9
  generalize (upd Hb fr (.lst []))=Hc at sF c8 ⊢;have st:=sC.trans sF;have bc:=ba.stp q9 st;have zc:=za.trans (.stp st (.inr (.inr rfl)));have uc:C_ aC ak aq i G q v Hc S0 l n ns R T' C g:=⟨ua.rp.mv (Mv.dJ st (Ne.symm iq) q0) (Mv.dJ st (Ne.symm a2) q0) (st.un ua.rp.w.un),c8,ua.tg,ua.O,ua.run⟩;clear sC sF st WD c9 c8 g4 a7 ba ua za;refine⟨_,Z,R.o,R.dx,_,Z,uc.rp.o,Z,i,G,v,R,T',_,_,ns,Z,uc.rp,λc2 Hd h7 h5 sd=>?_⟩;refine⟨_,Z,_,_,eZ (fj (pick l C) n),Z,bZ h5,bZ (sd _ _ uc.eg),SQ.ints LZ,λHe se=>?_⟩;have s2:=sd.trans se;exact k v He T' C (bc.same s2) (uc.same s2) (zc.trans (.made s2 λ_ _ _=>rfl)) (.inl d6)
inductive tY(f:bJ->List Int)(CW CH CN:Addr)(K:zzy)(vs:List V)(H:Hp)(Q:VK)(E:XK):Prop|m:∀(i:Nat)(τ:Tg)(W:rE)(S:dD)(h:Int),vs=[.ref W.o,.int h]->j9 CW CH i τ H W S->(∀(k:Nat)(s:bJ)(l:Addr)(H':Hp),h=k->S.hs[k]?=some s->H l=none->H' l=some (.lst ((f s).map V.int))->Same H H'->Q (.ref l) H')->(¬ux h S.hs.length->E (.ref CN) none H)->tY f CW CH CN K vs H Q E
def VB(F:fU K "boxes" "Works.boxes" m7 f fd)(t:jM P w K mg base 3 ak "hand_of" ["self","hand"] (lq ak aq bw K))(v:cD K ak)(j:fG K aq)(x:lZ mg):bN P w K mg base (tM P w) 4 f fd ["self","hand"] (tY bJ.bs ak aq bw K):=by
 refine F.Xv Ao (λm H Q E h=>?_) (λu A b s H m Q E p h q=>?_)
 .obtain⟨i,c,W,S,h,rfl,_⟩:=h
  rfl
 .obtain⟨i,c,W,S,h,rfl,w,o,n⟩:=h
  refine⟨_,(aJ (aZ (dh (cA (K:=K) rfl) oZR x.gP fu (aj (bf (K:=K) rfl (oE t v.cls rfl q (p.mono DZ) (pv 0) (aj (pv 1) au)) rfl) au)))),?_⟩;refine⟨_,Z,W.o,W.dx,_,Z,w.o,Z,_,Z,i,c,W,S,h,Z,w,λk A s e r g=>?_,n⟩;have a:=w.hd k A s r g;exact⟨A.h,aq,A.hx,_,_,Z,a.c.h,j.cls,j.iJ,Z,A.b,_,Z,.inl (bF.of a.c.b),λl d=>o k s l _ e g d ao (aH d)⟩
def Y8(F:fU K "said" "Works.said" pC f fd)(t:jM P w K mg base 3 ak "hand_of" ["self","hand"] (lq ak aq bw K))(v:cD K ak)(j:fG K aq)(x:lZ mg):bN P w K mg base (tM P w) 4 f fd ["self","hand"] (tY bJ.sy ak aq bw K):=by
 refine F.Xv Dj (λm H Q E h=>?_) (λu A b s H m Q E p h q=>?_)
 .obtain⟨i,c,W,S,h,rfl,_⟩:=h
  rfl
 .obtain⟨i,c,W,S,h,rfl,w,o,n⟩:=h
  refine⟨_,(aJ (aZ (dh (cA (K:=K) rfl) oZR x.gP fu (aj (bf (K:=K) rfl (oE t v.cls rfl q (p.mono DZ) (pv 0) (aj (pv 1) au)) rfl) au)))),?_⟩;refine⟨_,Z,W.o,W.dx,_,Z,w.o,Z,_,Z,i,c,W,S,h,Z,w,λk A s e r g=>?_,n⟩;have a:=w.hd k A s r g;exact⟨A.h,aq,A.hx,_,_,Z,a.c.h,j.cls,j.kY,Z,A.sy,_,Z,.inl (bF.of a.c.y),λl d=>o k s l _ e g d ao (aH d)⟩
def oK(s:bJ):PyData:= .tuple [eZ s.bs,eZ s.sy,.str s.st]
def yd(S:dD):PyData:= .tuple [eZ S.ns,eZ (yO S),.int S.ts.length,.list (S.hs.map oK)]
def Ck(g:jW S):SeqAt.shaped (yd S)=true:=by
 obtain⟨c,i⟩:=jV S.ns;obtain⟨b,h⟩:=jV (yO S)
 have d:∀s∈S.hs,(oK s).canLay0=true/\(oK s).depth<=2:=λs a=>by
  obtain⟨c,i⟩:=jV s.bs;obtain⟨b,h⟩:=jV s.sy;refine⟨?_,?_⟩
  .show (PyData.canLay0 (eZ s.bs)&&(PyData.canLay0 (eZ s.sy)&&(PyData.strOk s.st&&true)))=true
   rw[c,b,aao (g.t s a)];rfl
  .show max (eZ s.bs).depth (max (eZ s.sy).depth (max 0 0))+1<=2
   lia
 have j:PyData.canLay0 (.list (S.hs.map oK))=true:=iR oK S.hs λs a=>(d s a).1;have k:=fY oK 2 S.hs λs a=>(d s a).2
 have f:PyData.canLay0 (yd S)=true:=by show (PyData.canLay0 (eZ S.ns)&&(PyData.canLay0 (eZ (yO S))&&(true&&(PyData.canLay0 (.list (S.hs.map oK))&&true))))=true;rw[c,b,j];rfl
 have e:PyData.depth (yd S)<=64:=by show max (eZ S.ns).depth (max (eZ (yO S)).depth (max 0 (max (PyData.depthAll (S.hs.map oK)+1) 0)))+1<=64;lia
 unfold SeqAt.shaped;rw[f,aaO e];rfl
inductive sE(CW CH:Addr)(K:zzy)(vs:List V)(H:Hp)(Q:VK)(dY:XK):Prop|m:∀(i:Nat)(τ:Tg)(W:rE)(S:dD),vs=[.ref W.o,.int S.hs.length]->j9 CW CH i τ H W S->S.ts.length<=10000->(∀(t:Addr)(H':Hp),Dat H' (.ref t) (yd S)->Same H H'->Q (.ref t) H')->sE CW CH K vs H Q dY
theorem Li(F:fU K "_law_all_told" "_law_all_told" qI f fd)(Dy:MethAt P w K mg base 4 ak "boxes" ["self","hand"] (λvs H Q _=>tY bJ.bs ak aq bw K vs H Q λ_ _ _=>False))(HN:MethAt P w K mg base 4 ak "said" ["self","hand"] (λvs H Q _=>tY bJ.sy ak aq bw K vs H Q λ_ _ _=>False))(gR:MethAt P w K mg base 4 ak "how" ["self","hand"] (λvs H Q _=>yh ak aq bw K vs H Q λ_ _ _=>False))(nO:MethAt P w K mg base 1 ak "cells" ["self"] (uX ak aq K))(gU:MethAt P w K mg base 1 ak "counts" ["self"] (nY ak aq K))(X:MethAt P w K mg base 1 ak "__len__" ["self"] (FQ ak aq K))(r:cD K ak)(U:lZ mg):bN P w K mg base ig 5 f fd ["one","many"] (sE ak aq K):=by
 refine F.ok vf (λvs H Q E h=>?_) (λa0 A y s H vs Q E m h=>?_)
 .obtain⟨i,d,W,S,rfl,_⟩:=h
  rfl
 .obtain⟨i,d,W,S,rfl,w,tl,k⟩:=h
  refine⟨_,(aA (mL (i:=2) rfl vf.nd rfl (Or.inl rfl) (N:=["k","one"]) (own:=["k"]) (caps:=[0]) (bA.of (by kernel_rfl)) (cN oZR U.dH (aj (pv 1) au)) (λ_ _ _ _=>(bI (i:=0) (show List.Nodup (["k","one"]:List Str) by decide +kernel) rfl (Or.inl rfl))) (λ_ _ _ _=>cO) (λ_ _ _ _=>(dI (aj (cu Dy r.cls (m.mono DZ) (pv 1) (aj (pv 0) au)) (aj (cu HN r.cls (m.mono DZ) (pv 1) (aj (pv 0) au)) (aj (cu gR r.cls (m.mono DZ) (pv 1) (aj (pv 0) au)) au))))))
   (aJ (aZ (dI (aj (bU nO r.cls (m.mono DZ) (pv 0)) (aj (bU gU r.cls (m.mono DZ) (pv 0)) (aj (aU (Fd X (m.mono DZ)) oZR U.dR cH (aj (pv 0) au)) (aj (pv 2) au)))))))),?_⟩
  refine⟨_,Z,_,Z,by have:=w.hn;lia,by have:=w.hn;lia,λD hD=>?_⟩;rw[abf];refine RX (λj=>((S.hs[j]?).map oK).getD .none) hD (by have:=w.hn;lia) (λj H1 F hj u kF=>?_) (λH1 u d1=>?_)
  .have O:S.hs[j]?=some S.hs[j]:=by simp[hj]
   have l:ux ((0:Int)+j) S.hs.length:=⟨LZ,LZ⟩
   have one:∀(v:Nat)(t:bJ),(0:Int)+j=v->S.hs[v]?=some t->t=S.hs[j]:=λv t R p=>by
    have:v=j:=by lia
    subst this;rw[O] at p;exact(aaY p).symm
   have g:=w.same u;refine⟨_,Z,W.o,W.dx,_,Z,g.o,Z,_,Z,i,d,W,S,_,Z,g,λk1 t1 l1 H2 R J f1 h1 c=>?_,λz=>adt l z⟩;obtain rfl:=one k1 t1 R J;have e:=g.same c;refine⟨_,Z,W.o,W.dx,_,Z,e.o,Z,_,Z,i,d,W,S,_,Z,e,λk2 Y B H3 p I M h2 a=>?_,λz=>adt l z⟩;obtain rfl:=one k2 Y p I;have q:=e.same a;refine⟨_,Z,W.o,W.dx,_,Z,q.o,Z,_,Z,i,d,W,S,_,Z,q,λk3 t3 G C=>?_,λz=>adt l z⟩;obtain rfl:=one k3 t3 G C;refine⟨sZ3,λt x=>?_⟩;have b:=aH (o:=HO.tup [V.ref l1,V.ref B,V.str S.hs[j].st]) x;refine kF _ _ ((c.trans a).trans b) ?_;rw[O];show Dat _ _ (oK S.hs[j]);simp only[oK,Dat];refine⟨t,_,Z,tW (c.free (a.free x)) ao,?_⟩;simp only[aV,Dat,and_true];exact⟨bZ (tW f1 (b _ _ (a _ _ h1))),bZ (tW (c.free M) (b _ _ h2))⟩
  have g:=w.same u;refine⟨_,Z,W.o,W.dx,_,Z,g.o,Z,i,d,W,S,Z,g,λB H2 M p c=>?_⟩;have e:=g.same c;refine⟨_,Z,W.o,W.dx,_,Z,e.o,Z,i,d,W,S,Z,e,λl3 H3 f3 G a=>?_⟩;have q:=e.same a;refine⟨_,Z,W.o,W.dx,_,Z,q.o,⟨i,d,W,S,Z,q,_,Z,LZ,LZ,?_⟩⟩;refine⟨_,Z,sZ4,λt x=>?_⟩;have b:=aH (o:=HO.tup [V.ref B,V.ref l3,V.int S.ts.length,V.ref D]) x;refine k t _ ?_ (((u.trans c).trans a).trans b);have T:=d1.same (((Oz _ _).trans (c.trans a)).trans b) _
  have eh:((List.range S.hs.length).map λj=>((S.hs[j]?).map oK).getD .none)=S.hs.map oK:=by
   refine List.ext_getElem? λn=>?_
   by_cases L:n<S.hs.length
   .simp[L]
   .simp[L]
  rw[eh] at T;unfold yd;simp only[Dat];refine⟨t,_,Z,ao,?_⟩;simp only[aV,Dat,and_true,true_and];refine⟨bZ (b _ _ (a _ _ p)),bZ (b _ _ G),?_⟩;simpa only[Dat] using T
def Kl{T:dD}(al:Ia S T):yd S=yd T/\wkD S=wkD T:=by
 have c:yO S=yO T:=by unfold yO;rw[al.hs];refine List.map_congr_left λk _=>?_;rw[al.ts.count_eq]
 constructor
 .unfold yd
  rw[c,al.ns,al.hs,al.ts.length_eq]
 .unfold wkD Qn Oo
  rw[c,al.ns,al.hs,al.m]
inductive zf(CR CW CH:Addr)(K:zzy)(vs:List V)(H:Hp)(Q:VK)(dY:XK):Prop|m:∀(i ii q m n:Nat)(τ:Tg)(r tl sm g:Addr)(tls:List Addr)(R:CZ)(T S0 S1:dD)(l:List Tc)(o:List Nat)(gW ns:List Nt)(W:rE),vs=[.ref R.o,.ref W.o,.int n,.ref tl]->B55 τ H r l tl tls n sm gW->C_ CR CW CH i ii q τ H S0 l n ns R T o g->C55 S0 S1 l n gW ns->j9 CW CH m τ H W S1->o.length=l.length->(∀H',Same H H'->Q (.bl true) H')->zf CR CW CH K vs H Q dY
theorem Vx(F:fU K "_law_ended" "_law_ended" Az f fd)(lV:MethAt P w K mg base 10 aC "works" ["self"] (qy aC ak aq K))(iH:MethAt P w K mg base 1 aC "counts" ["self"] (nW aC ak aq K))(nQ:MethAt P w K mg base 1 aC "done" ["self"] (uV aC ak aq K))(iB:FnAt P w K mg base 5 "_law_alike" ["found","due"] (mD 4 K))(CJ:MethAt P w K mg base 3 ak "__eq__" ["self","other"] (Oa ak aq K))(U:FnAt P w K mg base 5 "_law_all_told" ["one","many"] (sE ak aq K))(O:dF K aC)(aK:cD K ak)(Bt:lZ mg):bN P w K mg base ig 11 f fd ["one","works","hands","touches"] (zf aC ak aq K):=by
 refine F.ok Eb (λvs H Q E h=>?_) (λa1 A L s H vs Q E t h=>?_)
 .obtain⟨i,y,q,m,n,S,r,X,sm,g,G,R,T,S0,S1,l,o,gW,ns,W,rfl,_⟩:=h
  rfl
 .obtain⟨i,y,q,m,n,S,r,X,sm,g,G,R,T,S0,S1,l,o,gW,ns,W,rfl,b,u,c,w,lo,k⟩:=h
  have oJ:=t.units;have n8:=c.n8;obtain⟨eg,fz⟩:=xP (ns:=ns) (T:=T) u.O lo u.rp.dn;have al:=c.R.end u.O (u.O.whole lo) u.run;have gS:=vh c.R c.g0;have z:=vh u.run c.g0;have hS:S1.hs.length=n:=by rw[(xq c.R).1,c.h0]
  have hT:T.hs.length=n:=by rw[←al.hs];exact hS
  have Y:T.ts.length<=10000:=adl (u.ts c) DZ;have tS:S1.ts.length<=10000:=by rw[al.ts.length_eq];exact Y
  refine⟨_,(aA (bH (i:=4) Eb.nd rfl (Or.inl rfl) (bU lV O.cls (t.mono DZ) (pv 0)))
   (aA (bY (PW.pt (mK (fH (cX (bK iB (t.mono DZ) oZR (aj (bU iH O.cls (t.mono DZ) (pv 0)) (aj (dB rfl (N:=["some"]) (own:=["some"]) (caps:=[]) (bA.of (by kernel_rfl)) (cQ (K:=K) rfl (pv 3)) (λ_ _ _ _=>(bI (i:=0) (show List.Nodup (["some"]:List Str) by decide +kernel) rfl (Or.inl rfl))) (λ_ _ _ _=>cO) (λ_ _ _ _=>(aU (aW (K:=K) rfl) oZR Bt.dR cH (aj (pv 0) au)))) au))))) (lJ (bD YX (bU nQ O.cls (t.mono DZ) (pv 0)) j_ (bh _))))) (aJ (aZ j_)) bG)
   (aJ (aZ (jA (cU (abW CJ (t.mono DZ)) (pv 4) (pv 1) (bh _)) (iZ (cU (pJ (K:=K) rfl oJ) (bK U (t.mono DZ) oZR (aj (pv 4) (aj (pv 2) au))) (bK U (t.mono DZ) oZR (aj (pv 1) (aj (pv 2) au))) (bh _)))))))),?_⟩
  refine⟨_,Z,R.o,R.dx,_,Z,u.rp.o,Z,i,y,5,S,R,T,_,_,ns,Z,u.rp,DZ,λa B H1 v e x=>?_⟩;have b1:=b.made x e v.un;have D:=u.mv (λ_ _=>Mv.tags x e) v.un;have w1:=w.mv (Mv.tags x e) v.un;clear b u w e;dsimp only[bV];refine⟨_,Z,R.o,R.dx,_,Z,D.rp.o,Z,i,y,a,R,T,_,_,ns,Z,D.rp,λc1 H2 a0 M J=>?_⟩;refine⟨_,Z,X,Z,⟨_,bF.of (J _ _ b1.et)⟩,λD3 ZJ=>?_⟩;refine GQ (b1.same J) ZJ n8 (λp us H' F ep kF=>⟨_,Z,p,us,Z,.inl (bF.of ep),kF⟩) (λH3 e3 s3=>?_);refine⟨_,_,eZ (fj l n),Z,bZ (by rw[←eg];exact s3 _ _ M),bZ e3,SQ.ints (by rw[dO];lia),λH4 s4=>⟨_,Z,cW ?_⟩⟩;have j:=(J.trans s3).trans s4;have V:=D.same j;have C:=w1.same j;have d:=v.same j;refine⟨_,Z,R.o,R.dx,_,Z,V.rp.o,Z,i,y,a,R,T,_,_,ns,Z,V.rp,?_⟩;rw[aaO eg];refine⟨true,true,Z,Z,_,Z,cW ?_⟩;refine⟨_,Z,_,Z,B.o,W.o,B.dx,W.dx,_,_,Z,Z,d.o,C.o,5,m,a,a,B,W,T,S1,Z,d,C,z,gS,λH5 I=>?_⟩
  have eE:wkE T S1=true:=by unfold wkE;rw[(Kl al).2];exact Wv (Mr z d.Ib)
  rw[eE];refine⟨true,Z,true,Z,eO ?_⟩;have w5:=d.same I;have b5:=C.same I;refine⟨_,Z,_,Z,5,a,B,T,by rw[hT];rfl,w5,Y,λt1 H6 d6 s6=>?_⟩;refine⟨_,Z,_,Z,m,a,W,S1,by rw[hS];rfl,b5.same s6,tS,λt2 H7 d7 s7=>?_⟩;refine⟨_,_,d6.same s7 _,d7,Ck z,Ck gS,?_⟩;rw[adp aaT,(Kl al).1,Wv (Ck z)];exact k H7 ((((x.trans j).trans I).trans s6).trans s7)
def upf{α:Type}(f:Nat->α)(j:Nat)(x:α):Nat->α:=λk=>if k=j then x else f k
def zX{α:Type}{f:Nat->α}{x:α}:upf f j x j=x:=adq rfl
def Kz{α:Type}{f:Nat->α}{x:α}(h:k≠j):upf f j x k=f k:=adp h
structure kJ(CR CW CH:Addr)(τ:Tg)(H:Hp)(r a:Addr)(l:List Tc)(tl:Addr)(tls:List Addr)(n:Nat)(sm:Addr)(gW:List Nt)(S0 S1 U:dD)(Wb W:rE)(rl gl:Addr)(R:Nat->CZ)(T:Nat->dD)(o:Nat->List Nat)(g:Nat->Addr)(ns:Nat->List Nt):Prop where
 b:B55 τ H r l tl tls n sm gW
 al:∀j,j<2->C_ CR CW CH (4*j+20) (4*j+21) (4*j+23) τ H S0 l n (ns j) (R j) (T j) (o j) (g j)
 wb:j9 CW CH 30 τ H Wb U
 ww:j9 CW CH 31 τ H W S1
 un:U.hs.length=n
 er:H rl=some (.lst [.ref (R 0).o,.ref (R 1).o])
 eg:H gl=some (.lst [.ref (g 0),.ref (g 1)])
 ea:∃refs,H a=some (.lst refs)/\refs.length=l.length
 tr:τ rl=[9]
 tg:τ gl=[9]
 ta:τ a=[9]
section
variable{CR:Addr}{r:Addr}{gW:List Nt}{S0 S1 U:dD}{Wb W:rE}{rl gl:Addr}{R:Nat->CZ}{T:Nat->dD}{o:Nat->List Nat}{g:Nat->Addr}{ns:Nat->List Nt}
def kJ.m9(m:Mv 9 τ H τ' H'){x:Addr}{v:HO}(e:H x=some v)(t:τ x=[9]):H' x=some v/\τ' x=[9]:=by have:=m.keep _ _ e (.inr (by rw[t];rfl));exact⟨this.1,this.2.trans t⟩
theorem kJ.mv(u:kJ CR CW CH τ H r a l tl tls n sm gW S0 S1 U Wb W rl gl R T o g ns)(c:RT τ' H' r)(m:∀k,k=9\/20<=k->Mv k τ H τ' H'):kJ CR CW CH τ' H' r a l tl tls n sm gW S0 S1 U Wb W rl gl R T o g ns:=by have b:=m 9 (.inl rfl);obtain⟨refs,q,p⟩:=u.ea;have i:=kJ.m9 b u.er u.tr;have f:=kJ.m9 b u.eg u.tg;have d:=kJ.m9 b q u.ta;exact⟨u.b.mv c (λx o e t=>kJ.m9 b e t) b.tup,λj h=>(u.al j h).mv (λk s=>m k (.inr LZ)) c.un,u.wb.mv (m 30 (.inr LZ)) c.un,u.ww.mv (m 31 (.inr LZ)) c.un,u.un,i.1,f.1,⟨refs,d.1,p⟩,i.2,f.2,d.2⟩
theorem kJ.same(u:kJ CR CW CH τ H r a l tl tls n sm gW S0 S1 U Wb W rl gl R T o g ns)(s:Same H H'):kJ CR CW CH τ H' r a l tl tls n sm gW S0 S1 U Wb W rl gl R T o g ns:=u.mv (u.b.T.same s) λ_ _=>Mv.of_same s
theorem kJ.made(u:kJ CR CW CH τ H r a l tl tls n sm gW S0 S1 U Wb W rl gl R T o g ns)(s:Same H H')(b:∀x o,H x=some o->τ' x=τ x)(un:rF τ' H'):kJ CR CW CH τ' H' r a l tl tls n sm gW S0 S1 U Wb W rl gl R T o g ns:=u.mv (u.b.T.made s b un) λ_ _=>Mv.tags s b
theorem kJ.draw(u:kJ CR CW CH τ H r a l tl tls n sm gW S0 S1 U Wb W rl gl R T o g ns)(k:KR r H H')(b:eF H' r):kJ CR CW CH τ H' r a l tl tls n sm gW S0 S1 U Wb W rl gl R T o g ns:=u.mv (u.b.T.draw k b) λ_ _=>(Dr.draw u.b.T k).mv
theorem kJ.stp{i:Nat}(u:kJ CR CW CH τ H r a l tl tls n sm gW S0 S1 U Wb W rl gl R T o g ns)(s:k_ i τ H H')(h:31<i):kJ CR CW CH τ H' r a l tl tls n sm gW S0 S1 U Wb W rl gl R T o g ns:=by
 refine⟨u.b.stp LZ s,λj h=>(u.al j h).mv (λk d=>Mv.dJ s LZ LZ) (s.un u.wb.un),u.wb.mv (Mv.dJ s LZ LZ) (s.un u.wb.un),u.ww.mv (Mv.dJ s LZ LZ) (s.un u.wb.un),u.un,?_,?_,?_,u.tr,u.tg,u.ta⟩
 .exact(kJ.m9 (Mv.dJ s LZ LZ) u.er u.tr).1
 .exact(kJ.m9 (Mv.dJ s LZ LZ) u.eg u.tg).1
 .obtain⟨refs,c,b⟩:=u.ea
  exact⟨refs,(kJ.m9 (Mv.dJ s LZ LZ) c u.ta).1,b⟩
def kJ.on{b:dD}(u:kJ CR CW CH τ H r a l tl tls n sm gW S0 S1 U Wb W rl gl R T o g ns)(s:k_ 30 τ H H')(w:j9 CW CH 30 τ H' Wb b)(d:b.hs.length=n):kJ CR CW CH τ H' r a l tl tls n sm gW S0 S1 b Wb W rl gl R T o g ns:=by
 refine⟨u.b.stp DZ s,λj h=>(u.al j h).mv (λk f=>Mv.dJ s LZ LZ) (s.un u.wb.un),w,u.ww.mv (Mv.dJ s LZ LZ) (s.un u.wb.un),d,?_,?_,?_,u.tr,u.tg,u.ta⟩
 .exact(kJ.m9 (Mv.dJ s LZ LZ) u.er u.tr).1
 .exact(kJ.m9 (Mv.dJ s LZ LZ) u.eg u.tg).1
 .obtain⟨refs,e,c⟩:=u.ea
  exact⟨refs,(kJ.m9 (Mv.dJ s LZ LZ) e u.ta).1,c⟩
def kJ.put{e:dD}(u:kJ CR CW CH τ H r a l tl tls n sm gW S0 S1 U Wb W rl gl R T o g ns)(v:j<2)(s:MP (4*j+20) (4*j+21) (4*j+23) τ τ' H H')(b:B55 τ' H' r l tl tls n sm gW)(G:C_ CR CW CH (4*j+20) (4*j+21) (4*j+23) τ' H' S0 l n (ns j) (R j) e o' (g j)):kJ CR CW CH τ' H' r a l tl tls n sm gW S0 S1 U Wb W rl gl R (upf T j e) (upf o j o') g ns:=by
 have m:∀k,k≠4*j+20->k≠4*j+21->k≠4*j+23->Mv k τ H τ' H':=λk q p i=>s.mv q p i LZ LZ LZ;have un:=b.T.un;refine⟨b,λk h=>?_,u.wb.mv (m _ LZ LZ LZ) un,u.ww.mv (m _ LZ LZ LZ) un,u.un,?_,?_,?_,?_,?_,?_⟩
 .by_cases z:k=j
  .subst z
   rw[zX,zX];exact G
  .rw[Kz z,Kz z]
   exact(u.al k h).mv (λf t=>m f LZ LZ LZ) un
 .exact(kJ.m9 (m 9 LZ LZ LZ) u.er u.tr).1
 .exact(kJ.m9 (m 9 LZ LZ LZ) u.eg u.tg).1
 .obtain⟨refs,c,d⟩:=u.ea
  exact⟨refs,(kJ.m9 (m 9 LZ LZ LZ) c u.ta).1,d⟩
 .exact(kJ.m9 (m 9 LZ LZ LZ) u.er u.tr).2
 .exact(kJ.m9 (m 9 LZ LZ LZ) u.eg u.tg).2
 .obtain⟨refs,c,d⟩:=u.ea
  exact(kJ.m9 (m 9 LZ LZ LZ) c u.ta).2
theorem kJ.ixR(u:kJ CR CW CH τ H r a l tl tls n sm gW S0 S1 U Wb W rl gl R T o g ns)(b:j<2):bF K H rl [.ref (R 0).o,.ref (R 1).o]/\yP [V.ref (R 0).o,V.ref (R 1).o] (j:Int)=some (.ref (R j).o):=by refine⟨bF.of u.er,?_⟩;rcases(by lia:j=0\/j=1) with rfl|rfl<;>rfl
theorem kJ.ixG(u:kJ CR CW CH τ H r a l tl tls n sm gW S0 S1 U Wb W rl gl R T o g ns)(b:j<2):bF K H gl [.ref (g 0),.ref (g 1)]/\yP [V.ref (g 0),V.ref (g 1)] (j:Int)=some (.ref (g j)):=by refine⟨bF.of u.eg,?_⟩;rcases(by lia:j=0\/j=1) with rfl|rfl<;>rfl
end
def abB{seq:List Nt}(m:n<=8)(o:l.length<=50)(ls:seq.length<=2501)(e:∀x∈l,x.k<n)(N:Fq l few seq):CG (fj l n) seq:=by
 refine⟨⟨by rw[dO];exact m,λc r=>?_⟩,LZ,λx q=>?_⟩
 .obtain⟨k,_,rfl⟩:=abE.mp r
  have:kc l k<=l.length:=List.length_filter_le _ _;lia
 .obtain⟨i,j,p,d,rfl⟩:=(N x).mp q
  have lt:=Fz d;obtain⟨_,⟨u,v,g,f,mt⟩,_⟩:=d;obtain⟨y,b⟩:∃y,l[i]?=some y:=⟨_,aal LZ⟩;obtain⟨z,a⟩:∃z,l[j]?=some z:=⟨_,aal p⟩;rw[aap,b] at g;rw[aap,a] at f;cases g;cases f;have h:=e y (aaN b);have zn:=e z (aaN a);have t:=Lz b;have s:=Lz a;have ne:=(O8.mp mt).1;rw[GF b a];unfold aac;dsimp only;rw[dO,fK h,fK zn];refine⟨⟨LZ,LZ⟩,⟨LZ,LZ⟩,⟨LZ,LZ⟩,⟨LZ,LZ⟩,ne⟩
def dg{a b:TS}{D:Ends}(h:∀r,r=b->Ip a r D σ H):Ip a b D σ H:=h b rfl
theorem rM.mv(f:rM i τ H τ' H')(h:k≠i)(a:i≠0):Mv k τ H τ' H':=⟨λx o e t=>⟨f.keep x o e (by rcases t with t|t;rw[t];simp;intro z;rw[z] at t;cases t) (by
 rcases t with t|t
 .rw[t];intro z;exact a (aaY z).symm
 .rw[t];intro z;exact h (aaY z)),f.tg x o e⟩,f.tup⟩
def O9{CR E:Addr}{i':Nat}{t c:Addr}{W:rE}{ns:List Nt}{Q:Addr->Hp->Prop}(w:j9 CW CH i τ H W S)(y:jW S)(r:S.m<=100)(B:RecAt H t c a cs ns)(ok:CG cs ns)(s:i'≠0)(C:ii≠0)(ne:ii≠i')(q:ii≠i)(lc:cs.length=S.hs.length)(go:∀(τ':Tg)(R:CZ)(b:List Nt)(H':Hp),b.Perm ns->M6 b->kE CR CW CH i' ii τ' H' R S cs b (List.replicate cs.length 0)->(∀x u,H x=some u->τ' x=τ x)->Same H H'->Q R.o H')(o d:Addr)(g:H o=none)(n:H d=none)(k:d≠o):
 uU CR CW CH E K (.ref o::([.ref W.o,.ref t]++[])) (upd (upd H d (.own o)) o (.ins CR d [])) (λv H'=>v=.non/\Q o H') (λ_ _ _=>False):=by
 have m:(upd H d (.own o)) o=none:=by rw[aF k.symm];exact g
 have f:Same H (upd (upd H d (.own o)) o (.ins CR d [])):=(aH n).trans (aH m);refine⟨i,i',ii,τ,o,d,t,c,a,W,S,cs,ns,Z,ao,w.un o g,w.same f,y,r,B.same f,ok,s,C,ne,q,λF h R b D z pm A p j l=>⟨Z,?_⟩,λbad=>adt lc bad⟩;rw[←z];exact go h R b D pm A p (λx u e=>j x u (f _ _ e) (aB e g)) (λx u e=>l _ _ (f _ _ e) (aB e g))
inductive IK(K:zzy)(vs:List V)(H:Hp)(Q:VK)(dY:XK):Prop|m:∀(a:Addr)(ns:List Int),vs=[.ref a]->bF K H a (ns.map V.int)->ns.length<=63->(∀H',Q (.bl true) H')->IK K vs H Q dY
theorem ab2(F:fU K "law" "law" Uq f fd)(r0:FnAt P w K mg base 1 "_law_reel" ["script"] (FW K))(bT:FnAt P w K mg base 1 "_law_draw" ["reel","many"] (kh K))(M8:FnAt P w K mg base 5 "_law_program" ["reel"] (KN K))(M9:FnAt P w K mg base 2 "_law_numbers" ["reel","many"] (KQ K))(HF:rJ P w K mg base 7 ak "Works" ["self","program","cells"] [] (λvs H Q _=>mC ak aq bW K vs H Q λ_ _ _=>False))(Xj:FnAt P w K mg base 9 "_law_run" ["reel","works","hands","turns"] (FT ak aq K))(Xk:FnAt P w K mg base 3 "_law_notes" ["web","few"] (Uh K))(Kq:rJ P w K mg base 10 aC "Replay" ["self","works","record"] [] (λvs H Q _=>uU aC ak aq bw K vs H Q λ_ _ _=>False))(jh:MethAt P w K mg base 9 ak "twin" ["self"] (wK ak aq K))(v9:FnAt P w K mg base 9 "_law_turned_on" ["works","hands"] (oZ ak aq K))(M7:FnAt P w K mg base 10 "_law_refused" ["one","touches","gone","hand","some"] (rW aC ak aq K))(Ql:FnAt P w K mg base 9 "_law_step" ["one","touches","gone","pick"] (uR aC ak aq K))(lV:MethAt P w K mg base 10 aC "works" ["self"] (qy aC ak aq K))(Xl:FnAt P w K mg base 11 "_law_ended" ["one","works","hands","touches"] (zf aC ak aq K))(aM:dF K aC)(aK:cD K ak)(Bt:lZ mg):bN P w K mg base ig 13 f fd ["script"] (IK K):=by
 refine F.ok iw (λvs H Q E h=>?_) (λs0 A o4 s H vs Q E O h=>?_)
 .obtain⟨a,ns,rfl,_⟩:=h
  rfl
 .obtain⟨I,a8,rfl,i6,m3,k⟩:=h
  have oJ:=O.units
  refine⟨_,(aA (bH (i:=1) iw.nd rfl (Or.inl rfl) (bK r0 (O.mono DZ) oZR (aj (pv 0) au)))
   (aA (bH (i:=2) iw.nd rfl (Or.inl rfl) (bK M8 (O.mono DZ) oZR (aj (pv 1) au)))
   (aA (bH (i:=3) iw.nd rfl (Or.inr rfl) (aU (aW (K:=K) rfl) oZR Bt.dR cH (aj (aP (aX (K:=K) rfl) (pv 2) aG (λ_ _=>rfl)) au)))
   (aA (bH (i:=4) iw.nd rfl (Or.inl rfl) (oF HF (O.mono DZ) oZR (aj (pv 2) (aj (bK M9 (O.mono DZ) oZR (aj (pv 1) (aj (aP (aX (K:=K) rfl) (pv 2) aG (λ_ _=>rfl)) au))) au))))
   (aA (cL (bK Xj (O.mono DZ) oZR (aj (pv 1) (aj (pv 4) (aj (pv 3) (aj (bK bT (O.mono DZ) oZR (aj (pv 1) (aj aG au))) au))))))
   (aA (bH (i:=5) iw.nd rfl (Or.inr rfl) (bU jh aK.cls (O.mono DZ) (pv 4)))
   (aA (pH (bK Xj (O.mono DZ) oZR (aj (pv 1) (aj (pv 5) (aj (pv 3) (aj (bR i_ (bK bT (O.mono DZ) oZR (aj (pv 1) (aj aG au))) (aU (Sd rfl) oZR Bt.aaU W9 (aj (aU (aW (K:=K) rfl) oZR Bt.dR cH (aj (pv 0) au)) (aj aG au)))) au))))) (Gx (K:=K) (n:=2) rfl rfl (oA (bI (i:=6) iw.nd rfl (Or.inl rfl)) (oA (bI (i:=7) iw.nd rfl (Or.inr rfl)) Gw))))
   (aA (bH (i:=8) iw.nd rfl (Or.inl rfl) (bK Xk (O.mono DZ) oZR (aj (pv 6) (aj j_ au))))
   (aA (bH (i:=9) iw.nd rfl (Or.inl rfl) (dI (aj (dB rfl (N:=["row"]) (own:=["row"]) (caps:=[]) (bA.of (by kernel_rfl)) (cQ (K:=K) rfl (pv 7)) (λ_ _ _ _=>(bI (i:=0) (show List.Nodup (["row"]:List Str) by decide +kernel) rfl (Or.inl rfl))) (λ_ _ _ _=>cO) (λ_ _ _ _=>(aU (aW (K:=K) rfl) oZR Bt.dR cH (aj (pv 0) au)))) (aj (dh (cA (K:=K) rfl) oZR Bt.gP fu (aj (pv 8) au)) au))))
   (aA (bH (i:=10) iw.nd rfl (Or.inl rfl) (cP (aj (oF Kq (O.mono DZ) oZR (aj (pv 4) (aj (pv 9) au))) (aj (oF Kq (O.mono DZ) oZR (aj (pv 4) (aj (pv 9) au))) au))))
   (aA (cL (zm (K:=K) rfl PySem.F.plainAttrs_list PySem.F.slot_list_clear PySem.F.type_list_clear vB (aP (aX (K:=K) rfl) (pv 9) aG (λ_ _=>rfl))))
   (aA (cL (zm (K:=K) rfl PySem.F.plainAttrs_list PySem.F.slot_list_clear PySem.F.type_list_clear vB (aP (aX (K:=K) rfl) (pv 9) aG (λ_ _=>rfl))))
   (aA (bH (i:=11) iw.nd rfl (Or.inl rfl) (cP (aj (bR Gy (cP (aj aG au)) (pv 3)) (aj (bR Gy (cP (aj aG au)) (pv 3)) au))))
   (aA (iI PassesOwn.never rfl (cN oZR Bt.dH (aj (bR Bp aG (aU (aW (K:=K) rfl) oZR Bt.dR cH (aj (pv 6) au))) au)) (bI (i:=12) iw.nd rfl (Or.inl rfl))
   (aA (bH (i:=13) iw.nd rfl (Or.inl rfl) (bK bT (O.mono DZ) oZR (aj (pv 1) (aj aG au))))
   (aA (bY (bD dZ (bK bT (O.mono DZ) oZR (aj (pv 1) (aj aG au))) aG (bh _)) (aA (cL (bK v9 (O.mono DZ) oZR (aj (pv 4) (aj (pv 3) au))))
   (aJ (cL (bK v9 (O.mono DZ) oZR (aj (bU lV aM.cls (O.mono DZ) (aP (aO (K:=K) rfl) (pv 10) (bR pI aG (pv 13)) (λ_ _=>rfl))) (aj (pv 3) au)))))) bG)
   (aA (bY (fH (cX (bK M7 (O.mono DZ) oZR (aj (aP (aO (K:=K) rfl) (pv 10) (pv 13) (λ_ _=>rfl)) (aj (pv 7) (aj (aP (aO (K:=K) rfl) (pv 11) (pv 13) (λ_ _=>rfl)) (aj (bK bT (O.mono DZ) oZR (aj (pv 1) (aj (pv 3) au))) (aj (pv 8) au)))))))) (aJ (aZ j_)) bG)
   (aJ (bY (fH (cX (bK Ql (O.mono DZ) oZR (aj (aP (aO (K:=K) rfl) (pv 10) (pv 13) (λ_ _=>rfl)) (aj (pv 7) (aj (aP (aO (K:=K) rfl) (pv 11) (pv 13) (λ_ _=>rfl)) (aj (bK bT (O.mono DZ) oZR (aj (pv 1) (aj aG au))) au))))))) (aJ (aZ j_)) bG))))))
   (aA (iI PassesOwn.never rfl (cN oZR Bt.dH (aj aG au)) (bI (i:=13) iw.nd rfl (Or.inl rfl))
   (aJ (iI PassesOwn.never rfl (cN oZR Bt.dH (aj (bR pI (aU (aW (K:=K) rfl) oZR Bt.dR cH (aj (pv 6) au)) (aU (xU (K:=K) rfl rfl) oZR Bt.W_ Mx (aj (aP (aO (K:=K) rfl) (pv 11) (pv 13) (λ_ _=>rfl)) au))) au)) (bI (i:=12) iw.nd rfl (Or.inl rfl))
   (aJ (bY (fH (cX (bK Ql (O.mono DZ) oZR (aj (aP (aO (K:=K) rfl) (pv 10) (pv 13) (λ_ _=>rfl)) (aj (pv 7) (aj (aP (aO (K:=K) rfl) (pv 11) (pv 13) (λ_ _=>rfl)) (aj (bK bT (O.mono DZ) oZR (aj (pv 1) (aj aG au))) au))))))) (aJ (aZ j_)) bG)))))
   (aJ (aZ (aU (gA (K:=K) rfl rfl) oZR Bt.Kf Cq (aj (dB rfl (N:=["one","works","hands","touches"]) (own:=["one"]) (caps:=[5,3,7]) (bA.of (by kernel_rfl)) (cQ (K:=K) rfl (pv 10)) (λ_ _ _ _=>(bI (i:=0) (show List.Nodup (["one","works","hands","touches"]:List Str) by decide +kernel) rfl (Or.inl rfl))) (λ_ _ _ _=>cO) (λ_ _ _ _=>(bK Xl (O.mono DZ) oZR (aj (pv 0) (aj (pv 1) (aj (pv 2) (aj (pv 3) au))))))) au))))))))))))))))))),?_⟩
  refine dg λmJ J=>?_;refine⟨_,Z,I,a8,Z,i6,m3,λr H1 p5 R1 s1 g6=>?_⟩
  obtain⟨d5,T1,l3⟩:∃d5,RT d5 H1 r /\ ∀o,H I=some o->H1 I=some o/\d5 I=[9]:=by
   cases e:H I with
   | none=>exact⟨λ_=>[],⟨R1,λx o e t=>adt rfl t,λ_ _=>rfl⟩,λo z=>by cases z⟩
   | some o=>exact⟨_,RT.new R1 [I] [9] (λx hx=>by have:=ab7.mp hx;subst this;exact⟨⟨o,s1 _ _ e⟩,aB e p5,g6 _ _ e⟩),λo' z=>⟨s1 _ _ (by rw[e];exact z),MZ⟩⟩
  try dsimp only[bV]
  subst J;refine dg λmJ J=>?_;refine⟨_,Z,r,d5,Z,T1,λp PL B c2 m g9 H3 g3 p0 p8 m0 p4 r9 T3 k7 l9=>?_⟩
  have l2:∀o,H I=some o->H3 I=some o/\g9 I=[9]:=λo e=>by obtain⟨e1,t1⟩:=l3 o e;exact⟨l9 _ _ e1 (T1.off _ _ e1 (by rw[t1];simp)).1,(k7 _ _ e1).trans t1⟩
  clear T1 l3 R1 s1 g6 k7 l9
  try dsimp only[bV]
  subst J;refine dg λmJ J=>?_;refine⟨_,Z,_,_,_,_,Z,Z,cC.of g3.ep,Z,PL,_,Z,.inl (bF.of g3.eL),?_⟩;rw[aak];have d0:B.length<=8:=by rw[g3.len];exact p8
  have r6:0<B.length:=by rw[g3.len];exact p0
  try dsimp only[bV]
  subst J;refine dg λmJ J=>?_;refine⟨_,Z,_,Z,_,Z,_,_,_,_,Z,Z,cC.of g3.ep,Z,r,g9,m,Z,T3,p4,λnv ns g8 H4 i4 T4 h5 f7=>?_⟩;have n4:∀i,Mv i g9 H3 g8 H4:=λi=>⟨λx o e t=>⟨f7 _ _ e (T3.off x o e (by rcases t with t|t;rw[t];simp;intro z;rw[z] at t;cases t)).1,h5 x o e⟩,λx xs e=>T3.R.tups f7 _ _ e⟩;have g4:=g3.mv (n4 0)
  have f2:∀o,H I=some o->H4 I=some o/\g8 I=[9]:=λo e=>by obtain⟨e3,t3⟩:=l2 o e;exact⟨f7 _ _ e3 (T3.off _ _ e3 (by rw[t3];simp)).1,(h5 _ _ e3).trans t3⟩
  have f8:jW (Du m ns c2):=Rt i4.1.2
  have l0:(Du m ns c2).hs.length=B.length:=by show (c2.map _).length=_;rw[aak,g4.len]
  clear n4 g3 T3 h5 f7 l2;refine Zk (i:=30) (τ:=g8) g4.h LZ LZ T4.un DZ i4.h λa4 Wb H5 w5 c8 s5=>?_;have T5:=T4.made s5 c8 w5.un;have f1:∀o,H I=some o->H5 I=some o/\a4 I=[9]:=λo e=>⟨s5 _ _ (f2 o e).1,(c8 _ _ (f2 o e).1).trans (f2 o e).2⟩;clear f2 s5 c8 g4 i4 T4;have j8:(Du m ns c2).m<=100:=by show m<=100;lia
  have e7:(Du m ns c2).ts=[]:=Z;generalize Du m ns c2=r1 at f8 l0 w5 j8 e7
  try dsimp only[bV]
  subst J;refine dg λmJ J=>?_;refine⟨_,Z,_,Z,_,Z,_,Z,r,10,Z,T5.R,DZ,DZ,λy H6 y0 y1 R6 k6=>?_⟩;have T6:=T5.draw k6 R6;have w6:=w5.mv (i:=30) (Dr.draw T5 k6).mv T6.un;have c0:∀o,H I=some o->H6 I=some o/\a4 I=[9]:=λo e=>⟨T5.keep k6 (f1 o e).1 (by rw[(f1 o e).2];simp),(f1 o e).2⟩;obtain⟨y,rfl⟩:=adh y0;clear f1 T5 w5 k6 R6;refine⟨r,30,29,a4,Wb,r1,y,by rw[l0];rfl,T6,w6,f8,by rw[e7];show 0<=100;decide,LZ,LZ,DZ,DZ,λt a tl C l Y k1 H7 et S ln=>?_⟩;have f0:∀o,H I=some o->H7 I=some o/\k1 I=[9]:=λo e=>⟨S.fr.keep _ _ (c0 o e).1 (by rw[(c0 o e).2];simp) (by rw[(c0 o e).2];simp),(S.fr.tg _ _ (c0 o e).1).trans (c0 o e).2⟩;have w7:=S.w;have T7:=S.T;have gb:=vh S.R f8;have lb:Y.hs.length=B.length:=(xq S.R).1.trans l0;have mb:Y.m<=100:=by rw[(xq S.R).2];exact j8
  have tb:Y.ts.length<=20:=by rw[Gq S.R,e7,aa1,aak];show 0+l.length<=20;lia
  clear S ln et c0 T6 w6 y1 y0 f8 l0 j8 e7
  try dsimp only[bV]
  subst J;refine dg λmJ J=>?_;refine⟨_,Z,Wb.o,Wb.dx,_,Z,w7.o,Z,30,31,k1,Wb,Y,Z,w7,gb,mb,DZ,λa0 W H8 w8 Dg s8=>?_⟩;have T8:=T7.made s8 Dg w8.un;have b4:=w7.mv (i:=30) (Mv.tags s8 Dg) w8.un;have i3:∀o,H I=some o->H8 I=some o/\a0 I=[9]:=λo e=>⟨s8 _ _ (f0 o e).1,(Dg _ _ (f0 o e).1).trans (f0 o e).2⟩;clear T7 w7 f0 s8 Dg
  try dsimp only[bV]
  subst J;refine dg λmJ J=>?_;refine⟨_,Z,_,Z,_,Z,_,Z,r,10,Z,T8.R,DZ,DZ,λy2 H9 o1 o0 R9 k9=>⟨_,Z,I,_,Z,.inl (Ue i6 λo e=>T8.keep k9 (i3 o e).1 (by rw[(i3 o e).2];simp)),_,_,Z,_,_,Z,Z,?_⟩⟩;have T9:=T8.draw k9 R9;have w9:=w8.mv (i:=31) (Dr.draw T8 k9).mv T9.un;have X4:=b4.mv (i:=30) (Dr.draw T8 k9).mv T9.un;obtain⟨mm,em,p3⟩:∃mm:Nat,(y2+(if (30:Int)<((a8.map V.int).length:Int) then 30 else ((a8.map V.int).length:Int)))=mm/\mm<=50:=⟨(y2+(if (30:Int)<((a8.map V.int).length:Int) then 30 else ((a8.map V.int).length:Int))).toNat,by split<;>lia,by split<;>lia⟩;clear T8 w8 b4 i3 k9 R9 i6;refine⟨r,31,9,a0,W,Y,mm,?_,T9,w9,gb,LZ,p3,LZ,DZ,DZ,λt a tl C l S1 c4 Ha et S ln=>?_⟩
  .show [V.ref r,V.ref W.o,V.int B.length,V.int (y2+(if (30:Int)<((a8.map V.int).length:Int) then 30 else ((a8.map V.int).length:Int)))]=_
   rw[em,lb]
  have k4:=X4.mv (i:=30) (S.fr.mv DZ DZ) S.T.un;have k2:=S.w;have R0:=S.R;have o2:=S.tch;have hn:∀x∈l,x.k<B.length:=λx hx=>by rw[←lb];exact aat R0 x hx
  have i5:l.length<=50:=by lia
  have Ta:=S.T;have ea:=S.ea;have ta:=S.ta;have eta:=S.et;have k5:=S.tt;have l8:C.length=B.length:=by rw[←lb];exact S.nt
  have l4:∀k p,C[k]?=some p->c4 p=[9] /\ ∃us,Ha p=some (.lst us)/\aV Ha us ((l.filter λt=>t.k=k).map KJ):=λk p h=>by obtain⟨t,_,_,q⟩:=S.ps k p h;exact⟨t,q⟩
  clear S ln em o0 o1 T9 w9 X4;refine⟨t,_,Z,cC.of et,Z,_,_,Z,_,_,Z,Z,?_⟩;clear et
  try dsimp only[bV]
  subst J;refine dg λmJ J=>?_;refine⟨_,Z,a,l.map gj,true,Z,ea,by rw[aak];exact i5,λX seq H8 i1 s8 N8 r8 mem=>?_⟩;have N0:Fq l true seq:=λx=>by rw[mem x,aak]
  obtain⟨Sy,eN,dN⟩:=N8;have T8:=Ta.claim (t:=[9]) s8 i1 ⟨_,eN⟩;have Dg:∀x o,Ha x=some o->aQ c4 X [9] x=c4 x:=λx o e=>aR (aB e i1)
  have b8:B55 (aQ c4 X [9]) H8 r l tl C B.length X seq:=by refine⟨T8,s8 _ _ eta,(Dg _ _ eta).trans k5,l8,λk p h=>?_,⟨Sy,eN,dN⟩,bC⟩;obtain⟨t,us,e,d⟩:=l4 k p h;exact⟨(Dg _ _ e).trans t,us,s8 _ _ e,aV.keep s8.tups _ (vJ _) d⟩
  have b4:=k4.mv (Mv.tags s8 Dg) T8.un;have h1:=k2.mv (Mv.tags s8 Dg) T8.un;obtain⟨refs,j3,n3⟩:=ea;have Xz:∃refs,H8 a=some (.lst refs)/\refs.length=l.length:=⟨refs,s8 _ _ j3,by rw[n3.length,aak,aak]⟩;have h7:=(Dg _ _ j3).trans ta;clear Ta j3 n3 eta k5 l4 l8 T8 Dg mem eN dN s8 i1 k4 k2 ta Sy;generalize aQ c4 X [9]=a0 at b8 b4 h1 h7
  try dsimp only[bV]
  subst J;refine dg λmJ J=>?_;refine⟨_,Z,tl,Z,⟨_,bF.of b8.et⟩,λD hD=>?_⟩;refine GQ b8 hD d0 (λp us H' F ep kF=>⟨_,Z,p,us,Z,.inl (bF.of ep),kF⟩) (λH9 e9 s9=>?_);obtain⟨Sy,eN,dN⟩:=b8.N;refine⟨_,Z,X,_,Z,.inl (bF.of (s9 _ _ eN)),λq hq=>?_⟩;have sq:=aH (o:=HO.lst Sy) hq;refine⟨sZ2,λhp m9=>?_⟩;have sh:=aH (o:=HO.tup [V.ref D,V.ref q]) m9;have c1:=(s9.trans sq).trans sh;have Dq:D≠q:=aB e9 hq;have RC:RecAt (upd (upd H9 q (.lst Sy)) hp (.tup [V.ref D,V.ref q])) hp D q (fj l B.length) seq:=⟨ao,sh _ _ (sq _ _ e9),Sy,sh _ _ ao,aV.keep c1.tups _ (cI _ qZ _) dN⟩
  have c9:∀x o,H8 x=some o->aQ (aQ a0 D [50]) q [50] x=a0 x:=λx o e=>by rw[aR (aB (s9 _ _ e) hq),aR (aB e hD)]
  have T9:=(b8.T.claim (t:=[50]) s9 hD ⟨_,e9⟩).claim (t:=[50]) (sq.trans sh) hq ⟨_,sh _ _ ao⟩;have h8:aQ (aQ a0 D [50]) q [50] D=[50]:=by rw[aR Dq];exact bC
  have h3:aQ (aQ a0 D [50]) q [50] q=[50]:=bC;have b9:=b8.made c1 c9 T9.un;have X4:=b4.mv (Mv.tags c1 c9) T9.un;have d7:=h1.mv (Mv.tags c1 c9) T9.un
  have n2:∃refs,(upd (upd H9 q (.lst Sy)) hp (.tup [V.ref D,V.ref q])) a=some (.lst refs)/\refs.length=l.length:=by obtain⟨refs,ea,la⟩:=Xz;exact⟨refs,c1 _ _ ea,la⟩
  have h6:aQ (aQ a0 D [50]) q [50] a=[9]:=by obtain⟨refs,ea,la⟩:=Xz;exact(c9 _ _ ea).trans h7
  clear b8 b4 h1 Xz h7 s9 e9 eN dN sq sh m9 hq hD c1 c9 T9;generalize upd (upd H9 q (.lst Sy)) hp (.tup [V.ref D,V.ref q])=Hb at RC b9 X4 d7 n2 ⊢;generalize aQ (aQ a0 D [50]) q [50]=k0 at h8 h3 b9 X4 d7 h6
  try dsimp only[bV]
  subst J;refine dg λmJ J=>?_;have Ib:=abB d0 i5 LZ hn N0;have lc:(fj l B.length).length=Y.hs.length:=by rw[dO,lb]
  refine⟨_,Z,_,Z,O9 (i':=20) (ii:=21) X4 gb mb RC Ib DZ DZ DZ DZ lc λc Ra na Hc l7 l1 ra DY sk=>?_⟩;have bc:=b9.made sk DY ra.w.un;have k3:=X4.mv (Mv.tags sk DY) ra.w.un;have n6:=RC.same sk;refine⟨_,Z,_,Z,O9 (i':=24) (ii:=25) k3 gb mb n6 Ib DZ DZ DZ DZ lc λb3 Rb nb Hd l5 k8 rb c7 sd=>?_⟩;have bd:=bc.made sd c7 rb.w.un;have s2:=sk.trans sd;have t2:∀x o,Hb x=some o->b3 x=k0 x:=λx o e=>(c7 _ _ (sk _ _ e)).trans (DY _ _ e);refine⟨sZ2,λL d1=>?_⟩;have sr:=aH (o:=HO.lst [V.ref Ra.o,V.ref Rb.o]) d1;have s3:=s2.trans sr;have t3:∀x o,Hb x=some o->aQ b3 L [9] x=k0 x:=λx o e=>(aR (aB (s2 _ _ e) d1)).trans (t2 _ _ e);have er:(upd Hd L (.lst [V.ref Ra.o,V.ref Rb.o])) L=some (.lst [V.ref Ra.o,V.ref Rb.o]):=ao;have b5:∀x o,Hd x=some o->aQ b3 L [9] x=b3 x:=λx o e=>aR (aB e d1);have Te:=bd.T.claim (t:=[9]) sr d1 ⟨_,er⟩;have tr:aQ b3 L [9] L=[9]:=bC;have be:=bd.made sr b5 Te.un;have e5:=X4.mv (Mv.tags s3 t3) Te.un;have d6:=d7.mv (Mv.tags s3 t3) Te.un;have f6:=(ra.mv (Mv.tags sd c7) (Mv.tags sd c7) rb.w.un).mv (Mv.tags sr b5) (Mv.tags sr b5) Te.un;have f4:=rb.mv (Mv.tags sr b5) (Mv.tags sr b5) Te.un;obtain⟨refs,ea,la⟩:=n2;have j2:=s3 _ _ ea;have e6:=(t3 _ _ ea).trans h6;have eh:=s3 _ _ RC.1;have eD:=s3 _ _ RC.2.1;have tD:=(t3 _ _ RC.2.1).trans h8;obtain⟨o3,j0,_⟩:=RC.2.2;have eq:=s3 _ _ j0;have tq:=(t3 _ _ j0).trans h3;clear sr s3 t3 b5 Te bd X4 d7 ra rb sd sk c7 DY s2 t2 d1 b9 ea h6 RC n6 h8 h3 j0 k3 bc Ib;generalize upd Hd L (.lst [V.ref Ra.o,V.ref Rb.o])=He at er be e5 d6 f6 f4 j2 eh eD eq ⊢;generalize aQ b3 L [9]=b0 at tr be e5 d6 f6 f4 e6 tD tq
  try dsimp only[bV]
  subst J;refine dg λmJ J=>?_;refine⟨_,Z,_,_,_,_,Z,Z,cC.of eh,Z,.inl ⟨Z,_,bF.of eD⟩,D,_,Z,Z,eD,?_⟩;have e8:k_ 50 b0 He (upd He D (.lst [])):=k_.set (by rw[tD];rfl) eD XZ;have eq1:(upd He D (.lst [])) q=some (.lst o3):=by rw[aF Dq.symm];exact eq
  have j1:=e8.tup _ _ eh;generalize upd He D (.lst [])=Hf at e8 eq1 j1 ⊢
  try dsimp only[bV]
  subst J;refine dg λmJ J=>?_;refine⟨_,Z,_,_,_,_,Z,Z,cC.of j1,Z,.inl ⟨Z,_,bF.of eq1⟩,q,_,Z,Z,eq1,?_⟩;have st:k_ 50 b0 He (upd Hf q (.lst [])):=e8.trans (k_.set (by rw[tq];rfl) eq1 XZ);have a6:=st.un be.T.un;have bg:=be.stp DZ st;have h2:=e5.mv (Mv.dJ st DZ DZ) a6;have h0:=d6.mv (Mv.dJ st DZ DZ) a6;have f5:=f6.mv (Mv.dJ st DZ DZ) (Mv.dJ st DZ DZ) a6;have f3:=f4.mv (Mv.dJ st DZ DZ) (Mv.dJ st DZ DZ) a6;have f9:=st.keep _ _ er (by rw[tr];decide);have g5:=st.keep _ _ j2 (by rw[e6];decide);clear e8 st eq1 j1 be e5 d6 f6 f4 er j2 eh eD tD eq tq Dq;generalize upd Hf q (.lst [])=Hg at a6 bg h2 h0 f5 f3 f9 g5 ⊢
  try dsimp only[bV]
  subst J;refine dg λmJ J=>?_;refine⟨sZ1,λq1 m2=>⟨_,Z,?_⟩⟩;have i0:=aH (o:=HO.lst [V.int 0]) m2;refine⟨q1,_,_,Z,Z,ao,LZ,LZ,by rw[sizeLine_eq];simp;lia,λg0 i8=>?_⟩;rw[abf,rep0,List.map_replicate];have b7:=i0.trans (aH (o:=HO.lst (List.replicate B.length (V.int 0))) i8);have e0:(upd (upd Hg q1 (.lst [V.int 0])) g0 (.lst (List.replicate B.length (V.int 0)))) g0=some (.lst (List.replicate B.length (V.int 0))):=ao;have n0:=i0.free i8;generalize upd (upd Hg q1 (.lst [V.int 0])) g0 (.lst (List.replicate B.length (V.int 0)))=Hh at b7 e0 ⊢;clear i0 m2 i8;refine⟨sZ1,λq2 m1=>⟨_,Z,?_⟩⟩;have h9:=aH (o:=HO.lst [V.int 0]) m1;refine⟨q2,_,_,Z,Z,ao,LZ,LZ,by rw[sizeLine_eq];simp;lia,λg1 i7=>?_⟩;rw[abf,rep0,List.map_replicate];have a7:=h9.trans (aH (o:=HO.lst (List.replicate B.length (V.int 0))) i7);have e1:(upd (upd Hh q2 (.lst [V.int 0])) g1 (.lst (List.replicate B.length (V.int 0)))) g1=some (.lst (List.replicate B.length (V.int 0))):=ao;have n1:=h9.free i7;generalize upd (upd Hh q2 (.lst [V.int 0])) g1 (.lst (List.replicate B.length (V.int 0)))=Hi at a7 e1 ⊢;clear h9 m1 i7;refine⟨sZ2,λgl a9=>?_⟩;have sl:=aH (o:=HO.lst [V.ref g0,V.ref g1]) a9;have g2:(upd Hi gl (.lst [V.ref g0,V.ref g1])) gl=some (.lst [V.ref g0,V.ref g1]):=ao;generalize upd Hi gl (.lst [V.ref g0,V.ref g1])=Hj at sl g2 ⊢
  have U0:∃c3,kJ aC ak aq c3 Hj r a l tl C B.length X seq Y S1 Y Wb W L gl (λj=>if j=0 then Ra else Rb) (λ_=>Y) (λ_=>[]) (λj=>if j=0 then g0 else g1) (λj=>if j=0 then na else nb):=by
   have p2:g1≠g0:=λz=>by rw[z,e0] at n1;cases n1
   have p1:gl≠g0:=λz=>by rw[z,a7 _ _ e0] at a9;cases a9
   have o5:gl≠g1:=λz=>by rw[z,e1] at a9;cases a9
   have s3:=(b7.trans a7).trans sl;have t3:∀x o,Hg x=some o->aQ (aQ (aQ b0 g0 [23]) g1 [27]) gl [9] x=b0 x:=λx o e=>((aR (aB (a7 _ _ (b7 _ _ e)) a9)).trans (aR (aB (b7 _ _ e) n1))).trans (aR (aB e n0));have un:=((a6.claim (t:=[23]) b7 (p:=g0) ⟨_,e0⟩).claim (t:=[27]) a7 (p:=g1) ⟨_,e1⟩).claim (t:=[9]) sl (p:=gl) ⟨_,g2⟩
   have z0:fj (pick l []) B.length=List.replicate B.length 0:=by
    have:pick l []=[]:=Z;rw[this];refine List.ext_getElem? λk=>?_;unfold fj
    by_cases z:k<B.length<;>simp[z,kc]
   rw[dO,←z0] at f5 f3;refine⟨_,bg.made s3 t3 un,λj hj=>?_,h2.mv (Mv.tags s3 t3) un,h0.mv (Mv.tags s3 t3) un,lb,s3 _ _ f9,g2,⟨refs,s3 _ _ g5,la⟩,(t3 _ _ f9).trans tr,bC,(t3 _ _ g5).trans e6⟩;rcases(by lia:j=0\/j=1) with rfl|rfl
   .exact⟨f5.mv (Mv.tags s3 t3) (Mv.tags s3 t3) un,by rw[z0,List.map_replicate];exact sl _ _ (a7 _ _ e0),by show aQ (aQ (aQ b0 g0 [23]) g1 [27]) gl [9] g0=[23];rw[aR p1.symm,aR p2.symm];exact bC,.nil,Z⟩
   .exact⟨f3.mv (Mv.tags s3 t3) (Mv.tags s3 t3) un,by rw[z0,List.map_replicate];exact sl _ _ e1,by show aQ (aQ (aQ b0 g0 [23]) g1 [27]) gl [9] g1=[27];rw[aR o5.symm];exact bC,.nil,Z⟩
  obtain⟨c3,U0⟩:=U0
  have C0:∀j,C55 Y S1 l B.length seq ((λj=>if j=0 then na else nb) j):=λj=>by
   refine⟨R0,o2,hn,N0,?_,?_,d0,i5,lb,tb,gb,mb,LZ⟩
   .dsimp only
    split
    .exact l7
    .exact l5
   .dsimp only
    split
    .exact l1
    .exact k8
  clear b7 e0 n0 a7 e1 n1 a9 sl g2 a6 bg h2 h0 f5 f3 f9 g5 tr e6 l7 l5 l1 k8 lc la;generalize (λj=>if j=0 then na else nb)=ns at U0 C0;have p7:∀j:Nat,True:=λ_=>trivial;generalize hR:(λj=>if j=0 then Ra else Rb:Nat->CZ)=R at U0;generalize (λj=>if j=0 then g0 else g1:Nat->Addr)=g at U0;clear p7 hR
  try dsimp only[bV]
  subst J;refine dg λmJ J=>?_;obtain⟨refs,d4,la⟩:=U0.ea;refine⟨_,Z,a,refs,Z,.inl (bF.of d4),_,_,Z,Z,.inl ⟨DZ,DZ⟩,((3*l.length:Nat):Int),by rw[la,Int.natCast_mul];rfl,LZ,LZ,?_⟩;rw[abf];clear d4 la refs;refine gZ (lo:=0) (n:=3*l.length) (λj σ Hc=>∃(M a5:Option V) (c:Tg) (U:dD) (T:Nat->dD) (o:Nat->List Nat),σ=[some (.ref I),some (.ref r),some (.ref p),some (.int B.length),some (.ref Wb.o),some (.ref W.o),some (.ref a),some (.ref tl),some (.ref X),some (.ref hp),some (.ref L),some (.ref gl),M,a5]/\kJ aC ak aq c Hc r a l tl C B.length X seq Y S1 U Wb W L gl R T o g ns/\U.ts.length<=20+j) ⟨_,_,c3,Y,_,_,Z,U0,LZ⟩ ?_ ?_
  .clear U0 c3
   rintro j σ Hc hj ⟨M,a5,c,U,T,o,rfl,u,ut⟩;rw[Int.zero_add];dsimp only[bV];refine dg λs4 p9=>?_;refine⟨_,Z,r,2,Z,u.b.T.R,DZ,DZ,λz Ha z0 z1 Rk kk=>?_⟩;have u1:=u.draw kk Rk;obtain⟨b,rfl⟩:=adh z0;clear u kk Rk z0
   try dsimp only[bV]
   subst p9;refine sG (λa3 H'=>∃(c5:Tg) (U':dD),a3=[some (.ref I),some (.ref r),some (.ref p),some (.int B.length),some (.ref Wb.o),some (.ref W.o),some (.ref a),some (.ref tl),some (.ref X),some (.ref hp),some (.ref L),some (.ref gl),some (.int (j:Nat)),some (.int (b:Nat))]/\kJ aC ak aq c5 H' r a l tl C B.length X seq Y S1 U' Wb W L gl R T o g ns/\U'.ts.length<=21+j) (λD' d2 _=>?_) ?_
   .refine⟨_,Z,r,4,Z,u1.b.T.R,DZ,DZ,λz2 Hb r4 r3 Rb kb=>?_⟩
    have u2:=u1.draw kb Rb;refine⟨Z,_,Z,?_⟩;refine cV (λ_=>?_) (λ_=>d2 _ _ ⟨c,U,Z,u2,LZ⟩);clear u1 kb Rb;refine sG (λa3 H'=>∃(U':dD),a3=[some (.ref I),some (.ref r),some (.ref p),some (.int B.length),some (.ref Wb.o),some (.ref W.o),some (.ref a),some (.ref tl),some (.ref X),some (.ref hp),some (.ref L),some (.ref gl),some (.int (j:Nat)),some (.int (b:Nat))]/\kJ aC ak aq c H' r a l tl C B.length X seq Y S1 U' Wb W L gl R T o g ns/\U'.ts.length<=21+j) (λs7 n5 _=>?_) ?_
    .refine⟨_,Z,_,Z,30,c,Wb,U,by rw[u2.un];rfl,u2.wb,LZ,by rw[u2.un];exact d0,λH' s'=>n5 _ _ ⟨U,Z,u2.same s',LZ⟩,λk s r' H' e1 e2 e3 e4 w' st=>n5 _ _ ⟨cG U k,Z,u2.on st w' ((DX U k).trans u2.un),?_⟩⟩
     rw[jO e1 e3,aa1];show U.ts.length+1<=21+j;lia
    .rintro a3 H' ⟨U',rfl,u3,c6⟩
     have i2:1-b<2:=by lia
     obtain⟨a1,a2⟩:=u3.ixR i2;have G:=u3.al _ i2;refine⟨_,Z,_,Z,_,_,Z,Z,L,_,(1-b:Nat),_,Z,by (try dsimp only);congr 1;lia,a1,a2,(R (1-b)).o,(R (1-b)).dx,_,Z,G.rp.o,Z,4*(1-b)+20,4*(1-b)+21,40,c,R (1-b),T (1-b),_,_,ns (1-b),Z,G.rp,DZ,λa4 W5 H5 w5 c8 s5=>?_⟩;have u5:=u3.made s5 c8 w5.un;have m4:(T (1-b)).hs.length=B.length:=by rw[←G.rp.lc,dO]
     have r5:=G.ts (C0 _);refine⟨_,Z,40,a4,W5,T (1-b),by rw[m4];rfl,w5,LZ,by rw[m4];exact d0,λH' s'=>d2 _ _ ⟨a4,U',Z,u5.same s',c6⟩,λk s r' H' e1 e2 e3 e4 w' st=>d2 _ _ ⟨a4,U',Z,u5.stp st DZ,c6⟩⟩
   rintro a3 H' ⟨c5,U',rfl,u3,c6⟩;clear u1 ut U c;have i2:b<2:=by lia
   refine sG (λa3 H'=>∃(U:dD),a3=[some (.ref I),some (.ref r),some (.ref p),some (.int B.length),some (.ref Wb.o),some (.ref W.o),some (.ref a),some (.ref tl),some (.ref X),some (.ref hp),some (.ref L),some (.ref gl),some (.int (j:Nat)),some (.int (b:Nat))]/\kJ aC ak aq c5 H' r a l tl C B.length X seq Y S1 U Wb W L gl R T o g ns/\U.ts.length<=21+j) (λD' d2 _=>?_) ?_
   .obtain⟨a1,a2⟩:=u3.ixR i2
    obtain⟨b1,b2⟩:=u3.ixG i2;refine⟨_,Z,_,Z,L,_,b,_,Z,Z,a1,a2,_,Z,_,Z,_,Z,gl,_,b,_,Z,Z,b1,b2,_,Z,_,Z,r,_,Z,u3.b.T.R,LZ,LZ,λz4 H4 n9 r2 Rd kd=>?_⟩;have u4:=u3.draw kd Rd;obtain⟨h4,rfl⟩:=adh n9;refine⟨_,Z,4*b+20,4*b+21,4*b+23,B.length,c5,r,tl,X,_,C,R b,T b,Y,S1,l,o b,seq,ns b,h4,Z,u4.b,u4.al b i2,C0 b,LZ,λH5 s5=>⟨_,Z,cW ?_⟩⟩;exact d2 _ _ ⟨U',Z,u4.same s5,c6⟩
   rintro a3 H' ⟨U,rfl,u4,ut⟩;clear u3 c6 U';obtain⟨a1,a2⟩:=u4.ixR i2;obtain⟨b1,b2⟩:=u4.ixG i2;refine⟨_,Z,_,Z,L,_,b,_,Z,Z,a1,a2,_,Z,_,Z,_,Z,gl,_,b,_,Z,Z,b1,b2,_,Z,r,5040,Z,u4.b.T.R,DZ,DZ,λz5 H5 n8 n7 Re ke=>?_⟩;have u5:=u4.draw ke Re;refine⟨4*b+20,4*b+21,4*b+23,B.length,c5,r,tl,X,_,C,R b,T b,Y,S1,l,o b,seq,ns b,z5,Z,u5.b,u5.al b i2,C0 b,LZ,LZ,LZ,LZ,LZ,LZ,λg7 H6 T6 o6 b6 G6 s6 _=>⟨_,Z,cW ?_⟩⟩;exact⟨_,_,g7,U,upf T b T6,upf o b o6,Z,u5.put i2 s6 b6 G6,LZ⟩
  .clear U0 c3
   rintro σ Hc ⟨M,a5,c,U,T,o,rfl,u,ut⟩;dsimp only;subst J;refine dg λmJ J=>?_;refine⟨(2:Int),Z,DZ,DZ,?_⟩;refine gZ (lo:=0) (n:=2) (λj σ Hc=>∃(M a5:Option V) (c:Tg) (T:Nat->dD) (o:Nat->List Nat),σ=[some (.ref I),some (.ref r),some (.ref p),some (.int B.length),some (.ref Wb.o),some (.ref W.o),some (.ref a),some (.ref tl),some (.ref X),some (.ref hp),some (.ref L),some (.ref gl),M,a5]/\kJ aC ak aq c Hc r a l tl C B.length X seq Y S1 U Wb W L gl R T o g ns /\ ∀k,k<j->(o k).length=l.length) ⟨_,_,c,T,o,Z,u,λk hk=>adt hk (Nat.not_lt_zero _)⟩ ?_ ?_
   .clear u c ut
    rintro b σ Hc i2 ⟨M,a5,c,T,o,rfl,u,i9⟩;rw[Int.zero_add];dsimp only[bV];obtain⟨refs,d4,la⟩:=u.ea;obtain⟨b1,b2⟩:=u.ixG i2;have G:=u.al b i2;have ol:=G.O.rest.1;have es:(fj (pick l (o b)) B.length).sum=((o b).length:Int):=by rw[zy B.length _ (pick l (o b)) rfl (C0 b).pick,G.O.rest.2]
    refine⟨_,Z,a,refs,Z,.inl (bF.of d4),_,Z,_,Z,gl,_,b,_,Z,Z,b1,b2,g b,fj (pick l (o b)) B.length,Z,bF.of G.eg,_,_,Z,Z,((l.length-(o b).length:Nat):Int),by rw[la,es,Int.natCast_sub (show (o b).length<=l.length by lia)],LZ,LZ,?_⟩;rw[abf];clear d4 la refs b1 b2 G es;refine gZ (lo:=0) (n:=l.length-(o b).length) (λi σ Hc=>∃(M:Option V) (c:Tg) (T':Nat->dD) (o':Nat->List Nat),σ=[some (.ref I),some (.ref r),some (.ref p),some (.int B.length),some (.ref Wb.o),some (.ref W.o),some (.ref a),some (.ref tl),some (.ref X),some (.ref hp),some (.ref L),some (.ref gl),M,some (.int (b:Nat))]/\kJ aC ak aq c Hc r a l tl C B.length X seq Y S1 U Wb W L gl R T' o' g ns/\(∀k,k<b->(o' k).length=l.length)/\((o' b).length=(o b).length+i\/(o' b).length=l.length)) ⟨_,c,T,o,Z,u,i9,.inl rfl⟩ ?_ ?_
    .clear u c M
     rintro i σ Hc hi ⟨M,c,T',o',rfl,u,d3,p6⟩;rw[Int.zero_add];dsimp only[bV];obtain⟨a1,a2⟩:=u.ixR i2;obtain⟨b1,b2⟩:=u.ixG i2;refine⟨_,Z,_,Z,L,_,b,_,Z,Z,a1,a2,_,Z,_,Z,_,Z,gl,_,b,_,Z,Z,b1,b2,_,Z,r,5040,Z,u.b.T.R,DZ,DZ,λz5 H5 n8 n7 Re ke=>?_⟩;have u5:=u.draw ke Re;refine⟨4*b+20,4*b+21,4*b+23,B.length,c,r,tl,X,_,C,R b,T' b,Y,S1,l,o' b,seq,ns b,z5,Z,u5.b,u5.al b i2,C0 b,LZ,LZ,LZ,LZ,LZ,LZ,λg7 H6 T6 o6 b6 G6 s6 l6=>⟨_,Z,cW ?_⟩⟩;have r7:=G6.O.rest.1;refine⟨_,g7,upf T' b T6,upf o' b o6,Z,u5.put i2 s6 b6 G6,λk hk=>by rw[Kz LZ];exact d3 k hk,?_⟩;rw[zX];lia
    .rintro σ Hc ⟨M,c,T',o',rfl,u,d3,p6⟩
     refine⟨_,_,c,T',o',Z,u,λk hk=>?_⟩
     by_cases z:k=b
     .subst z
      lia
     .exact d3 k LZ
   .clear u c ut
    rintro σ Hc ⟨M,a5,c,T,o,rfl,u,i9⟩;dsimp only;subst J;refine⟨_,Z,L,Z,⟨_,bF.of u.er⟩,λD hD=>?_⟩;refine lR (K:=K) (λ_=>some (.bl true)) hD (bF.of u.er) (by show 2<=_;decide) (λi v H2 G F hi s2 kG kF=>?_) (λH2 s2 e2=>?_)
    .have i2:i<2:=(aam.mp hi).1
     have ev:v=.ref (R i).o:=by rcases(by lia:i=0\/i=1) with rfl|rfl<;>exact(aaY hi).symm
     subst ev;have u2:=u.same s2;dsimp only[bV,uO];rw[adq rfl];refine⟨_,Z,_,Z,_,Z,_,Z,4*i+20,4*i+21,4*i+23,31,B.length,c,r,tl,X,g i,C,R i,T i,Y,S1,l,o i,seq,ns i,W,Z,u2.b,u2.al i i2,C0 i,u2.ww,i9 i i2,λH3 s3=>?_⟩;exact kF _ H3 s3 rfl
    .exact⟨D,[true,true],Z,bF.of e2,k _⟩
end
def len0(h:us.length=0):us=[]:=List.eq_nil_of_length_eq_zero h
def Ls(h:us.length=n+1):∃a vs,us=a::vs/\vs.length=n:=by
 cases us with
 | nil=>cases h
 | cons a t=>exact⟨a,t,Z,Nat.succ.inj h⟩
def Cw{T:Addr}{c:Value}(d:K.lookup T=some ⟨c,td,.seq #[.none] tn,QB⟩){kV:Value}:Binds K (W.fnOf "__init__" "Works.__init__" (d9 b_) (gG b_) (aN b_) (.ref T) kV doc pm an cdv ct) ["self","program","cells"] []:=by
 intro s b KX a;have a:b.length=3:=by simpa using a
 obtain⟨_,_,rfl,g⟩:=Ls a;obtain⟨_,_,rfl,f⟩:=Ls g;obtain⟨_,_,rfl,e⟩:=Ls f;cases len0 e;exact W.binds_K KX rfl d rfl rfl rfl
def Cv{T:Addr}{c:Value}(d:K.lookup T=some ⟨c,td,.seq #[.none] tn,QB⟩){kV:Value}:Binds K (W.fnOf "__init__" "Works.__init__" (d9 b_) (gG b_) (aN b_) (.ref T) kV doc pm an cdv ct) ["self","program","cells"] [.none]:=by
 intro s b KX a;have a:b.length=2:=by simpa using a
 obtain⟨_,_,rfl,f⟩:=Ls a;obtain⟨_,_,rfl,e⟩:=Ls f;cases len0 e;exact W.binds_K KX rfl d rfl rfl rfl
def Cu{T:Addr}{b:Value}(d:K.lookup T=some ⟨b,td,.seq #[.none] tn,QB⟩){kV:Value}(s:Shared)(us:zzt)(z:Value)(KX:K.In s.heap)(a:(us++[z]).length=(["self","program","cells"]:List Str).length):BindsTo s (W.fnOf "__init__" "Works.__init__" (d9 b_) (gG b_) (aN b_) (.ref T) kV doc pm an cdv ct) ⟨us,[("cells",z)]⟩ ((["self","program","cells"]:List Str).zip (us++[z])):=by
 have a:us.length=2:=by simpa using a
 obtain⟨_,_,rfl,e⟩:=Ls a;obtain⟨_,_,rfl,c⟩:=Ls e;cases len0 c;exact W.binds_K KX rfl d rfl rfl rfl
theorem all_mk{l:W.OpenLaw}{h:Heap}{mg:zzv}{fa c y N Kv:Addr}(X:K.In h)(G:h.Ns mainGlobals mg)(a1:mg "law" = some (.ref fa))(HW:Nb K "Hand" aq)(g_:Nb K "Works" ak)(v8:Nb K "Replay" aC)(Ft:aad K aq ["rows","at","in_boxes","sayings","state"])(zE:aad K ak ["program","numbers","hands","turns"])(wj:aad K aC ["record","firsts","stage","progress"])(ycg:XcI K)(wz:W.findIn K (.ref ak) "__class__" = some (some (.builtin "object.__class__")))(wu:W.mroIn K ak (.type "object")=some true)(qm:XC K "NoNumber" bW)(wG:XC K "NoHand" bw)(Fx:XC K "Over" cZ)(mj:XC K "Held" bQ)(oU:XC K "NoteError" N)(wC:XC K "NoNote" Kv)(gQ:yx K bW N true)(fP:yx K cZ N true)(fQ:yx K bQ N true)(jg:yx K bW Kv false)(xcc:XcI K)(ql:XrI K bW)(wB:XrI K bw)(Fv:XrI K cZ)(zN:W.findIn K (.ref bQ) "__getattribute__" = some (some (.builtin "BaseException.__getattribute__")))(zM:W.findIn K (.ref bQ) "__getattr__" = some none)(zK:W.mroIn K bQ (.type "BaseException")=some true)(zP:W.findIn K (.ref bQ) "__class__" = some (some (.builtin "object.__class__")))(uK:W.mroIn K bQ (.type "object")=some true)(zF:W.subIn K (.ref bQ) (.type "ValueError")=some true)(zG:W.findIn K (.ref bQ) "__setattr__" = some (some (.builtin "object.__setattr__")))(zH:((W.clsIn K bQ).any λcd=>cd.hasDict&&W.zj cd.mro)=true)(zO:W.hasDictIn K bQ=true)(zJ:W.findIn K (.ref bQ) "note" = some none)(Fw:W.ZP K bQ=true)(zL:W.keepIn K (.ref bQ)=true){Wi:Tok}(Hl:W.nsIn K mainGlobals "BOXES" = some (some (.str "abcdefgh" Wi))){Wh:Tok}(G_:W.nsIn K mainGlobals "ROUND" = some (some (.int 1000 Wh))){uz:Tok}(jd:W.nsIn K mainGlobals "MOST_UNTOUCHING" = some (some (.int 60 uz)))(q0:iC K "is_whole" t_)(q1:iC K "is_below" ud)(q2:gJ K aq "__init__" "Hand.__init__" qL)(q3:iC K "cell_of" wZ)(q4:gJ K aq "value_of" "Hand.value_of" iD)(q5:gJ K aq "holds" "Hand.holds" pG)(q6:gJ K aq "take" "Hand.take" qK)(q7:gJ K aq "do" "Hand.do" xg)(q8:gJ K aq "lead_on" "Hand.lead_on" lF)(q9:iC K "check_numbers" jY)(QG:gJ K ak "touch_by" "Works.touch_by" ju)(q11:gJ K ak "hand_of" "Works.hand_of" j4)(q12:gJ K ak "turn" "Works.turn" pB){b1 a5:Option Addr}{b0 a4 a7 b2 x a6:Value}{b3:Value}{b4:Nat}(a13:W.findIn K (.ref ak) "__init__" = some (some (.ref c)))(l13:K.lookup c=some ⟨b0,b1,.func (W.fnOf "__init__" "Works.__init__" (d9 b_) (gG b_) (aN b_) (.ref y) a4 a7 b2 a5 x a6),ahL⟩)(c13:W.codeIn K x "Works.__init__" = true)(k13:W.keepIn K (.ref c)=true)(n13:W.isFn K (.ref c)=true)(Ie:K.lookup y=some ⟨b3,ahq,.seq #[.none] b4,adV⟩)(q14:iC K "_law_reel" Gk)(q15:iC K "_law_draw" Gn)(q16:iC K "_law_alike" vg)(q17:iC K "_law_plain" Ax)(q18:iC K "_law_worth" Aw)(q19:iC K "_law_row" K6)(q20:iC K "_law_program" uh)(q21:iC K "_law_numbers" um)(q22:gJ K ak "cells" "Works.cells" m6)(q23:gJ K ak "how" "Works.how" qH)(q24:gJ K ak "counts" "Works.counts" lB)(q25:gJ K aq "another" "Hand.another" lG)(q26:gJ K ak "twin" "Works.twin" pA)(q27:gJ K aq "picture" "Hand.picture" lE)(q28:gJ K ak "picture" "Works.picture" jZ)(q29:gJ K ak "__eq__" "Works.__eq__" lC)(q30:iC K "_law_meet" Gm)(q31:iC K "_law_ahead" A_)(q32:iC K "_law_covered" uo)(q33:iC K "_law_notes" Ay)(q34:iC K "_law_run" K4)(q35:iC K "firsts_of" qG)(q36:iC K "is_note" wY)(q37:iC K "is_between" pq)(q38:iC K "check_notes" m5)(q39:iC K "has" Ur)(q40:gJ K aC "counts" "Replay.counts" j6)(q41:gJ K aC "done" "Replay.done" nF)(q42:gJ K aC "works" "Replay.works" lD)(q43:gJ K aC "is_over" "Replay.is_over" jw)(q44:gJ K aC "holding" "Replay.holding" jx)(q45:gJ K aC "free" "Replay.free" nA)(q46:gJ K aC "left" "Replay.left" m_)(q47:gJ K aC "__len__" "Replay.__len__" jy)(q48:gJ K bQ "__init__" "Held.__init__" qJ)(q49:gJ K aC "turn" "Replay.turn" m8)(q50:gJ K aC "__init__" "Replay.__init__" nu)(q51:iC K "_law_refusal" ug)(q52:gJ K ak "boxes" "Works.boxes" m7)(q53:gJ K ak "said" "Works.said" pC)(q54:gJ K ak "__len__" "Works.__len__" j5)(q55:iC K "_law_all_told" qI)(q56:iC K "_law_turned_on" pF)(q57:iC K "_law_refused" uf)(q58:iC K "_law_step" Gj)(q59:iC K "_law_ended" Az)(q60:iC K "law" Uq)(zb:Xe K ["ValueError","all","bool","enumerate","int","isinstance","len","list","max","min","range","reversed","sorted","str","sum","tuple","zip"]):
 ∃fd:zzs,(∀(s:Shared)(v:Value),BindsTo s fd ⟨[v],[]⟩ [("script",v)]) /\ ∀base:Heap,K.In base->base.Ns mainGlobals mg->bN l.prog w K mg base ig 13 fa fd ["script"] (IK K):=by
 obtain⟨fl,a2,al,Fl⟩:=q60;cases a1.symm.trans (W.mg_of X G al);obtain⟨z0,z1,z2,z3,z4,z5,z6,z7,z8,z9,V,U,T,S,R,Q,P,_⟩:=zb.mg X G;have a:lZ mg:=⟨z0,z1,z2,z3,z4,z5,z6,z7,z8,z9,V,U,T,S,R,Q,P⟩;obtain⟨u,t,r,q,n4,_⟩:=Ft;have d:fG K aq:=⟨HW.cls,u,t,r,q,n4⟩;obtain⟨u,t,r,q,_⟩:=zE;have b:cD K ak:=⟨g_.cls,u,t,r,q⟩;obtain⟨u,t,r,q,_⟩:=wj;have f:dF K aC:=⟨v8.cls,u,t,r,q⟩;have zB:IsO K mg ak "Works" :=⟨W.mg_of X G g_.a,wz,ycg.cg,ycg.ct,wu⟩;have M:Gv mg "BOXES" (.str "abcdefgh"):=⟨_,W.mg_of X G Hl,⟨_,Z⟩⟩;have jk:Gv mg "ROUND" (.int 1000):=⟨_,W.mg_of X G G_,⟨_,Z⟩⟩;have gH:Gv mg "MOST_UNTOUCHING" (.int 60):=⟨_,W.mg_of X G jd,⟨_,Z⟩⟩;have jD:=qm.r X G ql xcc;have gB:=wG.r X G wB xcc;have j8:=Fx.r X G Fv xcc;have lU:Xf K mg bQ "Held" "note" :=⟨W.mg_of X G mj.a,⟨mj.cl,mj.ty,mj.bs⟩,⟨zN,zM,zK,mj.cl,zP,xcc.cg,xcc.ct,uK⟩,zF,⟨zG,uK,zH⟩,zO,zJ⟩;have mV:=oU.o X G gQ;have f9:=wC.o X G jg;have c0:aaf K "__init__" "Works.__init__" b_ [.none] c _:=⟨⟨_,_,_,_,_,_,_,_,_,_,_,_,_,_,Z,l13,c13,Ie⟩,k13⟩;refine⟨a2,Fl.bind1 (by kernel_rfl),λbase _ _=>?_⟩;have Y:At8 l.prog w K mg base:=⟨_,X,G⟩;have A0:=Y.fn q0 λF=>Jh F a;have O:=Y.fn q1 λF=>Ji F A0;have A2:=Y.ma HW q2 (sp:=uW aq K) λF=>Vv F d M;have A3:=Y.fn q3 λF=>QZ F;have a8:=Y.me q4 (sp:=yg aq 0 K) λF=>Y4 F;have a9:=Y.me q4 λF=>Ox (n:=0) F a8 d M jk;have A4:=Y.me q4 λF=>Ox (n:=1) F a9 d M jk;have A5:=Y.me q5 (sp:=yX aq K) λF=>Vu F A4 d;have A6:=Y.me q6 (sp:=Ab aq K) λF=>Y7 F d M;have A7:=Y.me q7 (sp:=Yl aq K) λF=>aez F A4 A6 A5 d;have A8:=Y.me q8 (sp:=Ac aq K) λF=>Ze F A3 A7 d gH a;have A9:=Y.fnX q9 (sp:=o7 bW K) λF=>Jj F O jk a jD;have f6:=Y.me QG (sp:=rT ak aq K) λF=>Lb F A3 A4 A6 b d;have i:=Y.meX q11 (sp:=lq ak aq bw K) λF=>QV F O b a gB;have p:=Y.meX q12 (sp:=wL ak aq bw cZ K) λF=>Y6 F i f6 A8 b d j8;have j:=Vm c0 b d A9 A2 A8 a;have L:v7 l.prog w K mg base 7 ak "Works" ["self","program","cells"] [] (mC ak aq bW K):=⟨c,_,_,j,⟨g_.ms,a13,n13,g_.kp⟩,W.mg_of X G g_.a,Cw Ie,.nil⟩;have f7:v7 l.prog w K mg base 7 ak "Works" ["self","program","cells"] [.non] (mC ak aq bW K):=⟨c,_,_,j,⟨g_.ms,a13,n13,g_.kp⟩,W.mg_of X G g_.a,Cv Ie,.cons rfl .nil⟩;have f8:aae l.prog w K mg base 7 ak "Works" ["self","program","cells"] "cells" (mC ak aq bW K):=⟨c,_,j,⟨g_.ms,a13,n13,g_.kp⟩,W.mg_of X G g_.a,Cu Ie⟩;have f5:=Y.fn q14 λF=>Vr F a;have e:=Y.fn q15 λF=>Vy F a;have b5:=Y.fn q16 (sp:=mD 0 K) λF=>Q0 F;have b6:=Y.fn q16 λF=>sI (n:=0) F b5 a;have b7:=Y.fn q16 λF=>sI (n:=1) F b6 a;have b8:=Y.fn q16 λF=>sI (n:=2) F b7 a;have o:=Y.fn q16 λF=>sI (n:=3) F b8 a;have f4:=Y.fn q17 λF=>Vt F e;have f3:=Y.fn q18 λF=>Vl F e f4;have f2:=Y.fn q19 λF=>abZ F e f3 a;have f1:=Y.fn q20 λF=>Za F e f2 a;have f0:=Y.fn q21 λF=>Zb F e a;have J:=Y.me q22 (sp:=uX ak aq K) λF=>Vz F b a;have g:=Y.meX q23 (sp:=yh ak aq bw K) λF=>ab3 F i b d;have m:=Y.me q24 (sp:=nY ak aq K) λF=>QX F b a;have e9:=Y.me q25 (sp:=rZ aq K) λF=>Lh F d A2 a;have k:=Y.me q26 (sp:=wK ak aq K) λF=>Y5 F b d L.calm e9 a;have e8:=Y.me q27 (sp:=Gd aq K) λF=>Zf F d a;have e7:=Y.me q28 (sp:=Ob ak aq K) λF=>ab0 F b d e8 J m a;have e6:=Y.me q29 (sp:=Oa ak aq K) λF=>abY F b zB e7 a;have I:=Y.fn q30 λF=>Zc F;have e5:=Y.fn q31 λF=>ab6 F I a;have e4:=Y.fn q32 λF=>ab5 F a;have e3:=Y.fn q33 λF=>ab1 F I e5 e4 a;have e2:=Y.fn q34 (sp:=FT ak aq K) λF=>Y9 F e b g.calm p.calm a;have e1:=Y.fn q35 λF=>QW F;have e0:=Y.fn q36 λF=>Lf F A0 a;have d7:=Y.fn q37 λF=>Dl F O e0 a;have d6:=Y.fn q38 λF=>Br F d7 a;have d5:=Y.fn q39 λF=>ab4 F;have H:=Y.me q40 (sp:=nW aC ak aq K) λF=>Le F f a;have E:=Y.me q41 (sp:=uV aC ak aq K) λF=>Vs F f a;have D:=Y.me q42 (sp:=qy aC ak aq K) λF=>QS F f b k a;have C:=Y.me q43 (sp:=qz aC ak aq K) λF=>QT F f b g.calm a;have B:=Y.me q44 (sp:=Ae aC ak aq K) λF=>Lg F f d5 a;have d4:=Y.me q45 (sp:=yW aC ak aq K) λF=>Vp F f C B a;have d3:=Y.me q46 (sp:=Gb aC ak aq K) λF=>Zd F f a;have d2:=Y.me q47 (sp:=FZ aC ak aq K) λF=>Y_ F f d3 a;obtain⟨a3,_,⟨b9,a0⟩,z⟩:=q48;have d1:Qi l.prog w K mg base 1 bQ "Held" ["self","note"] (yZ bQ K):=⟨a3,_,Vw z lU,b9,beq_iff_eq.mp a0,Fw,W.mg_of X G mj.a,zL,z.uH (by kernel_rfl)⟩;have A:=Y.meX q49 (sp:=uT aC ak aq bw cZ bQ K) λF=>Vn F gB j8 f b O C B p d1 a;have d0:=Y.maX v8 q50 (sp:=uU aC ak aq bw K) λF=>Vo F gB f b d6 m e1 k a;have c9:=Y.fn q51 (sp:=yV aC ak aq cZ bQ K) λF=>Vq F fP fQ A mV f a;have c8:=Y.meX q52 (sp:=tY bJ.bs ak aq bw K) λF=>VB F i b d a;have c7:=Y.meX q53 (sp:=tY bJ.sy ak aq bw K) λF=>Y8 F i b d a;have c6:=Y.me q54 (sp:=FQ ak aq K) λF=>Y0 F b a;have c5:=Y.fn q55 (sp:=sE ak aq K) λF=>Li F c8.calm c7.calm g.calm J m c6 b a;have c4:=Y.fn q56 (sp:=oZ ak aq K) λF=>GC F g.calm p.calm b a;have c3:=Y.fn q57 (sp:=rW aC ak aq K) λF=>Ld F j8 lU c9 o a;have c2:=Y.fn q58 (sp:=uR aC ak aq K) λF=>QM F d4 H E d2 A.calm o f a;have c1:=Y.fn q59 (sp:=zf aC ak aq K) λF=>Vx F D H E o e6 c5 f b a;exact ab2 Fl f5 e f1 f0 L.calm e2 e3 d0.calm k c4 c3 c2 D c1 f b a
theorem walk{l:W.OpenLaw}{d:DefRec}{K:Params->zzy}(e:l.most=some 63)(b:d.params.defaults=[])(i:∀(w:World)(h:Heap),YP w h->(K w.params).In h)(F:∀(w:World)(mg:zzv)(fa:Addr)(h:Heap),(K w.params).In h->h.Ns mainGlobals mg->mg d.name=some (.ref fa) ->∃fd:zzs,(∀(s:Shared)(u:Value),BindsTo s fd ⟨[u],[]⟩ [("script",u)]) /\ ∀base:Heap,(K w.params).In base->base.Ns mainGlobals mg->bN l.prog w (K w.params) mg base ig 13 fa fd ["script"] (IK (K w.params))):
 W.WalkO q loose XP YP l.row.toRowW d [] (λf vs=>PySem.call f vs):=
 L2.X5 (n:=63) (k:=13) (x:= "script") (CX:=λ_=>ig) (sp:=λw=>IK (K w.params)) e DZ b ⟨Z,DZ,DZ⟩ i F (λ_ _ a c g _ j=>⟨a,c,Z,j,g,λ_=>rfl⟩) λ_ _ _ _ _ z=>z
end Prf
variable{ws:List Prf.lY}{W:Prf.rE}{gW:List Prf.Nt}
structure PySem.W.Fast:Prop where(tw4166131715457908346 tw14556042621411456808 tw15885280570538351703 tw5037631938419858849 tw11940239704020997378 tw7298758847233896009 tw6042878319618760047 tw7764085404891505600 tw11082658977656695985 tw18075969993827247717 tw7792457796274182188 tw12066501924008068650 tw11754463550326591937 tw713021696439353038 tw16631346237196711071 tw1213686008950351147 tw15902649553001951787 tw8247706680496978953 tw15476535533270877096 tw17227116893931093985 tw16216343182015539386 tw7714973187599341112 tw9155249169868400975 tw15394183247611662449 tw10944775753003945725 tw6458747076705337257 tw7810594190377471874 tw247964552278652461 tw3730671599098425033 tw9737831472552027440 tw10516271603250127424 tw7372294376283800292 tw7891713877703196273 tw4911800980232746492 tw13313815971779236060 tw5609086038979830334 tw5403657608683063400 tw8468010115206377523 tw16387260199071058303 tw17079912150838462347 tw2237171749247388610 tw2735209471028289550 tw2486811656947011965 tw18083039403904534012 tw7234539103039548461 tw18272077772977265211 tw17641139216255806551 tw699574825120076217 tw3721264450660066197 tw6811940497606456162 tw14840951676907974435 tw1203724865794136125 tw16255506987927537229 tw10096971984009883421 tw14935054954382127740 tw9702537346311111215 tw856012263980284181 tw13139475313526211098 tw14975102675909259280 tw10301738063639511796 tw14230800734536896960 tw17894077096573498193 tw4800278048906605938 tw16374833813197778372 tw18224578997603120989 tw16974439353345590873 tw8901652426205470693 tw9357578122783243283 tw13783546351546343738 tw17110474221188247113 tw5853192659340117240 tw14287956884237294466 tw16631628645626247093 tw6579778187168371242 tw16433660288747989797 tw8751971743470547606 tw1635399484679209753 tw16272802869968935101 tw3465201846173750273 tw4218054900054953561 tw4538751031076656571 tw17124084033931662098 tw284731715629268068 tw10826411575803932590 tw14662282342779122619 tw9483628816834298341 tw8695887362583414060 tw16361090328868011861 tw13704249873257235093 tw14838561116668810838 tw16273113057472876092 tw7434432705567383766 tw10073045851271853616 tw13016863925107670432 tw14660415607956770542 tw16754929252761920570 tw5881939565036558208 tw5278905850922269321 tw17501087570739524708 tw7445279951688498492 tw7942319408783667265 tw2025065057821631257 tw17634545627479999645 tw16571532639899523137 tw17268015863517396010 tw13273758376976895790 tw13617250779360553707 tw13945848330012813064 tw6393820412552694968 tw7107016630856008521 tw17593176437484473756 tw8770750350713603972 tw3799244306615644584 tw12308240558981044113 tw11221476018927980052 tw8216152010276110424 tw6113727720683071409 tw17038244559010202970 tw12558271379365268430 tw13481387908202670410 tw7798236367686122461 tw10342538579332465666 tw14225218114509051377 tw7552040515427767006 tw16050274532399676894 tw4130224588425691275 tw14082961683463012907 tw18362919558481970342 tw17627339585851968728 tw6507825385231601828 tw5263109846514259616 tw623507437339871389 tw14891965532441375906 tw1906559085370828249 tw12363432294076612386 tw16620451172265972150 tw11225944618116660068 tw4152716902927243250 tw6003662384924449345 tw14136808254689025644 tw10251283649108484313 tw11013466254175424669 tw2914600164797376561 tw14119880112243565612 tw2752303752877701568 tw14096667654556928686 tw16031851422671878366 tw17830015783444026227 tw3101911820243593887 tw7742631777897519301 tw14898895980673549075 tw17592910140629581256 tw10230308792781866773 tw14185462290345240731 tw93912819435238429 tw689704228713802941 tw8144646226229606981 tw11018778989580886940 tw8647248301074087341 tw6282900681915205608 tw13937629621674804272 tw3226855142177708600 tw88884022518930250 tw469461998268199893 tw14433814469565994667 tw6372411207806498157 tw7551912194581676610 tw18441440506260161191 tw8182873281690742043 tw15982305300836553811 tw8490780766978750466 tw10464660999763843255 tw8595231655536585423 tw2958885400072288565 tw1102114480858126114 tw3471452543693564241 tw8911361207719924126 tw2150985480237664968 tw11026385034680548616 tw10077615263507822143 tw2419477606418708671 tw10324651386850847488 tw7945685509289513035 tw3326179444755416954 tw1869084400404485877 tw3273842028552451684 tw4220776839217702758 tw10031279561433141334 tw2708330273509511276 tw9187928669382027749 tw17827493825739750277 tw3097219781732999435 tw13918631380238437290 tw6053010293999894458 tw4028270079205907501 tw3389232971962918124 tw515577933354487473 tw7096172066617162757 tw4538694049635681759 tw424645052677611457 tw18286696485066782020 tw10788377020645575658 tw9781147817461439278 tw18244644027562659925 tw15068503740660154201 tw9792288598276015348 tw11525076499963367710 tw12396590657640346534 tw15566213854649477238 tw7655975960249987384 tw1422455286202399374 tw15512109507283901367 tw9898397092828015218 tw5602182439352070220 tw15861328697584195685 tw16597288947072606788 tw13513047895538237692 tw2068263704653464133 tw1656927958334189794 tw1651133094587288491 tw14215849243605846783 tw8823670344222389645 tw1962946250356263187 tw15633722147282098312 tw10806868683508792413 tw5569366491734293995 tw8596004974426617840 tw7583029415293335859 tw7519118041823141128 tw5741800098098963516 tw17819990849725646402 tw1270665052067113719 tw16143460194527474104 tw4716058889373505357 tw9838964183117386518 tw11311335476089910584 tw17940019495474066461 tw3721943388377076199 tw3896452951687853799 tw17644601430088465457 tw18420889934684639472 tw15284616639714493366 tw5565845852133374296 tw10711777166981479044 tw9559405185569183460 tw10509150266821374147 tw13815691162504045645 tw6706227823209006130 tw16612114101645575954 tw9016214337603662932 tw17360266232967072392 tw10014089103595258718 tw17829287984748418209 tw9962822103804764198 tw9067716074307113989 tw4032442250035088770 tw3931666810894476784 tw6576800024775838205 tw17588093391036075747 tw9649228058656135201 tw8207766305184473502 tw8981112154934385817 tw7626318886514022350 tw12480482098509165788 tw93078482666957826 tw7496941257574070248 tw14318357580968863960 tw11475025533588337115 tw6245562561395749168 tw2151249771139152482 tw7999844195180073637 tw3330983177762938671 tw16106801768694633027 tw7661571120368797991 tw9359259323068429327 tw3808080053215984856 tw16816823594796544339 tw631583547388851669 tw8631926613499129153 tw148782115365536390 tw11609333182014017076 tw11418286255923601283 tw9136170434339447468 tw17207892260198566162 tw13580484900327438871 tw14345692248660690436 tw8871877812604368336 tw7151574489227839007 tw13904776887545897864 tw14611575593849070266 tw2962906192505161692 tw8602384269125963840 tw8745084759328769266 tw15973024667071528140 tw11202757986066081869 tw4256171054383792948 tw2241743273373056215 tw12891331920952928251 tw3349783091026470589 tw10673176687961338301 tw5806964810012264859 tw11696602182074345991 tw1978479287422232741 tw2508977812910335976 tw17373185120639963031 tw13384336879067958664 tw14998713905772882229 tw14310208076685803176 tw7672733431045837699 tw923150514182755543 tw5152607456139927780 tw6984824681357531557 tw6886176242673219968 tw15619876554634606332 tw5181390956654570844 tw13596175899021123302 tw18360115385233239670 tw12062923662551947492 tw13377798168098058089 tw5261717188639360702 tw6353809521351725457 tw16266286930649324957 tw10898674826341980277 tw15643790107749393534 tw650690090570280417 tw12304420811617553905 tw7646796864229186387 tw13205840704436560738 tw7748524760513757620 tw17614580071769580586 tw998688013205731434 tw12334848375484624169 tw7014645821736008568 tw10669952294445353145 tw8767104796411227255 tw7305596351633566219 tw15824398792803138920 tw17440121266118755264 tw12735286205946055803 tw3725339049308987825 tw17695914768656292259 tw2905566065103653492 tw5924367120621934191 tw1374933069778007866 tw2516701959293330491 tw5327230653845017707 tw3159859616152560235 tw10420662093233293937 tw10922274209879808936 tw10764511041865913740 tw12676297108858378537 tw455744472981252476 tw14950118256044259324 tw1137875146335459279 tw9149119500254663363 tw9291089925751257976 tw17228981629898534058 tw18229069537710505463 tw5372649696721339712 tw17264236382645893413 tw8047734989056304482 tw1746595456196672655 tw8394694249753581549 tw6889782800299963496 tw5828219795415574927 tw14404309160523649833 tw12463237000655202029 tw11161540985342417688 tw13143403712640333780 tw16771470922832754030 tw7559012450883839665 tw18041166908721784558 tw16468471830788145327 tw15700867046343121580 tw15195267916307793051 tw1438257770320058630 tw14409535845328467018 tw14130206779832180118 tw725347984663824784 tw12709446463767742094 tw268693711281198917 tw3337749519560624671 tw12045316576977435555 tw12726178610385090189 tw5301965762618841828 tw18226641819071452987 tw9357076498051222842 tw14296112345788335912 tw6429467028603879041 tw18081150060884862340 tw7291230410997353970 tw6779583060463986208 tw16826608464223897410 tw18241761767558447399 tw11192870190776497934 tw4016516804448438729 tw8288065576709309125 tw18036787027157975230 tw16028742919607217453 tw1092975612039473229 tw5564973778751438319 tw17052601691548553510 tw10496436988928240198 tw7578000515398224007 tw13658431795088530577 tw10982450467875372925 tw16132924576553095082 tw7869319088392049990 tw452277083048527464 tw15258855057638060050 tw17731579358285539837 tw12769390504880688258 tw13744167202025770931 tw11759750101081357101 tw2521098997255571867 tw5607880479374470484 tw207188897444799635 tw6291030330696398254 tw4616702672034485306 tw11163430575088609482 tw14901238030411051208 tw12611529727616418979 tw9970149043659683883 tw3176924914532560281 tw7158993524103954612 tw12255187009409979055 tw4738536423521076511 tw5081904361883362903 tw18433362707898827788 tw1595223441634231084 tw18206843464254732410 tw4185273665025222621 tw498932238773502773 tw8717179334236979389 tw14742330244668339684 tw5710969218609974678 tw12095495267940226565 tw15741782291740463377 tw13892657222796032466 tw2369998191601243842 tw8846500878183322159 tw13633423435952858997 tw4322178978636043526 tw5790062096794039089 tw10562818364618374896 tw3689990738261669415 tw16907228262118748431 tw10360434340244098485 tw11500672313978667424 tw3749114458634717787 tw12338526249446629880 tw6363112284585168695 tw15859274394422344156 tw12454420278232205618 tw3390086363669960286 tw17423821100051887531 tw1499032242807864072 tw9586147737753710476 tw10176744359162279046 tw3254371983069770395 tw12496730989916619827 tw18095417385383641277 tw9437006456193298602 tw4633544562021906099 tw7029842972586590720 tw9595293085231903354 tw11975069201290339130 tw10296299467229823460 tw15747361038618656079 tw3728687634119639211 tw6248659797444793749 tw6596434023332052760 tw17950160350278968683 tw10095060124122171685 tw4443586753043084410 tw5821813677607005798 tw16225889064069990208 tw15813227971198081154 tw2163569978003736102 tw12849184823923359942 tw1308288168733897651 tw18409318092475396219 tw4610429108747624744 tw7308333376530157175 tw4868349518927378744 tw13180337163664582477 tw5476401776451930691 tw9394413454934282221 tw10297850083097915184 tw6170228040098335186 tw16275231129128565951 tw15410269760098948195 tw13194338355601726129 tw17959357812333128556 tw9265114099326417760 tw17716021741169056404 tw3656833246193992639 tw4382711296876586749 tw17985901749760710175 tw243922837144674307 tw3626870077362339622 tw8576700128216294316 tw16800349322859633912 tw5728890081702708798 tw17351535442454435435 tw5581528131547227558 tw9649784020716976532 tw5643885890264053313 tw11760516993875756568 tw5225784685950626046 tw5783643289090634053 tw319253639786282850 tw16219247635320391747 tw9839410468476591530 tw9555435789506618539 tw15080701116838546830 tw7758718772264266213 tw7073213133997608113 tw18156338003490879217 tw10518508356866668123 tw14369871393795912821 tw7267149370797928048 tw8751094031142458230 tw4862780315140602791 tw7746830804012010763 tw6954368854830083346 tw17858021218527895619 tw1151166052239610612 tw1395157889210726684 tw8291793793342880334 tw8219821679645326984 tw5358005057967129287 tw14984562244308612044 tw4702243489749970484 tw7753315987821278545 tw9944888867658725854 tw7921798996752092074 tw11878571669165268552 tw3701927067373413206 tw17260842489869134472 tw8485822487375737048 tw7498142216232025152 tw9479543306348580169 tw12814106667595946227 tw5970892125428519899 tw17069511916706603901 tw13883079272008864199 tw9811088813360398022 tw5701349115755578680 tw9040365969264097041:True)
open PySem PySem.W PyProof.Rows
set_option maxRecDepth 100000 in
set_option maxHeartbeats 0 in
theorem PySem.Challenge.cw_fewnotes_k54_whole_two_begun_amid_holds : PySem.Challenge.rw_fewnotes_k54_whole_two_begun_amid.Holds := by
 w_on;o_law;k_head;(case hw=>w_witness2)
 k_fill
 refine Prf.walk (l:=PySem.Challenge.rw_fewnotes_k54_whole_two_begun_amid) rfl rfl (fun w h Y=>PySem.W.kIn_of Y) ?F
 case F=>
  intro w mg fa h KX G hmg
  replace hmg:mg (Str.ofString "law")=some (.ref fa):=hmg
  refine' Prf.all_mk KX G hmg ?HW ?g_ ?v8 ?Ft ?zE ?wj ?ycg ?wz ?wu ?qm ?wG ?Fx ?mj ?oU ?wC ?gQ ?fP ?fQ ?jg ?xcc ?ql ?wB ?Fv ?zN ?zM ?zK ?zP ?uK ?zF ?zG ?zH ?zO ?zJ ?Fw ?zL ?Hl ?G_ ?jd ?q0 ?q1 ?q2 ?q3 ?q4 ?q5 ?q6 ?q7 ?q8 ?q9 ?QG ?q11 ?q12 ?a13 ?l13 ?c13 ?k13 ?n13 ?Ie ?q14 ?q15 ?q16 ?q17 ?q18 ?q19 ?q20 ?q21 ?q22 ?q23 ?q24 ?q25 ?q26 ?q27 ?q28 ?q29 ?q30 ?q31 ?q32 ?q33 ?q34 ?q35 ?q36 ?q37 ?q38 ?q39 ?q40 ?q41 ?q42 ?q43 ?q44 ?q45 ?q46 ?q47 ?q48 ?q49 ?q50 ?q51 ?q52 ?q53 ?q54 ?q55 ?q56 ?q57 ?q58 ?q59 ?q60 ?zb
  (case HW|g_|v8=>constructor<;>k_is)
  (case Ft=>refine' ⟨?_,?_,?_,?_,?_,trivial⟩<;>k_is)
  (case zE|wj=>refine' ⟨?_,?_,?_,?_,trivial⟩<;>k_is)
  (case ycg=>constructor<;>k_is)
  (case wz|wu=>k_is)
  (case qm|wG|Fx|mj|oU|wC=>constructor;k_is;rfl;k_is;k_is)
  (case gQ|fP|fQ|jg=>constructor;rfl;k_is)
  (case xcc=>constructor<;>k_is)
  (case ql|wB|Fv=>constructor;k_is;k_is;k_is;k_is;k_is;k_is;k_exc)
  (case zN|zM|zK|zP|uK|zF|zG=>k_is)
  (case zH=>rfl)
  (case zO|zJ=>k_is)
  (case Fw=>rfl)
  (case zL|Hl|G_|jd=>k_is)
  (case q0|q1=>apply L2.Mi<;>k_is)
  (case q2=>apply L2.RL<;>k_is)
  (case q3=>apply L2.Mi<;>k_is)
  (case q4|q5|q6|q7|q8=>apply L2.RL<;>k_is)
  (case q9=>apply L2.Mi<;>k_is)
  (case QG|q11|q12=>apply L2.RL<;>k_is)
  (case a13|l13|c13|k13|n13|Ie=>k_is)
  (case q14|q15|q16|q17|q18|q19|q20|q21=>apply L2.Mi<;>k_is)
  (case q22|q23|q24|q25|q26|q27|q28|q29=>apply L2.RL<;>k_is)
  (case q30|q31|q32|q33|q34|q35|q36|q37|q38|q39=>apply L2.Mi<;>k_is)
  (case q40|q41|q42|q43|q44|q45|q46|q47|q48|q49|q50=>apply L2.RL<;>k_is)
  (case q51=>apply L2.Mi<;>k_is)
  (case q52|q53|q54=>apply L2.RL<;>k_is)
  (case q55|q56|q57|q58|q59|q60=>apply L2.Mi<;>k_is)
  (case zb=>refine' ⟨?_,?_,?_,?_,?_,?_,?_,?_,?_,?_,?_,?_,?_,?_,?_,?_,?_,trivial⟩<;>k_is)
#print axioms PySem.Challenge.cw_fewnotes_k54_whole_two_begun_amid_holds
