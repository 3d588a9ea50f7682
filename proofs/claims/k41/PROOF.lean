import PyProof.Rows.All
import Wide.All
import OpenK.AllK
import Wide.FinOn
import Lean
import PyProof.EqAt
import PyProof.EqKinds
import PyProof.TupleCall
import PyProof.EqLayable
import PyProof.ExcArgsOwn
import PyProof.ExcAttrAll.Exception
import PyProof.RulesAs
import PyProof.ExcBaseAll.ValueError
import PyProof.NsDelKeeps
import KE.KRevSl
import OpenK.KOps
import OpenK.KWalk
import PyProof.DictUpdate
import PyProof.StrLawsIdx
import PyProof.DictTruth
import PyProof.DictDisplay
import KE.KDictOf
import PyProof.AttrMissSeq
import PyProof.WalksS
import KE.KDictSum
import PySem.Challenge.RW_fewnotes_k41_cuts_and_orders_counted
set_option Elab.async false
set_option linter.all false
set_option maxRecDepth 100000
/-! THE HAND LAYER, for ints, bools, texts, own classes, LISTS and tuples (index, slices, in, append, pop ..), calls, loops. Paste it whole ahead of your own text; what your proof does not reach may be deleted. -/
namespace L2
open PySem PySem.Spec PyProof.Rows

/-- a key: an int or a str -/
abbrev Key := Sum Int Str
def keyIs : Key → Value → Bool
  | .inl k, v => Value.isInt k v
  | .inr x, v => Value.isStrOf x v
def keyH (w : World) : Key → Int
  | .inl k => hashInt k
  | .inr x => hashStr w x
theorem keyIs_shape : ∀ {k : Key} {v : Value}, keyIs k v = true → (∃ i t, k = Sum.inl i ∧ v = Value.int i t) ∨ (∃ x t, k = Sum.inr x ∧ v = Value.str x t)
  | .inl i, v, h => by
    obtain ⟨t, e⟩ := Value.isInt_shape (k := i) (v := v) h
    exact .inl ⟨i, t, rfl, e⟩
  | .inr x, v, h => by
    obtain ⟨t, e⟩ := Value.isStrOf_shape (x := x) (v := v) h
    exact .inr ⟨x, t, rfl, e⟩
theorem keyIs_int (i : Int) (t : Tok) : keyIs (.inl i) (.int i t) = true := by simp [keyIs, Value.isInt]
theorem keyIs_str (x : Str) (t : Tok) : keyIs (.inr x) (.str x t) = true := by simp [keyIs, Value.isStrOf]
theorem key_ll (a b : Int) : decide ((Sum.inl a : Key) = Sum.inl b) = (a == b) := by
  by_cases e : a = b
  · subst e; simp
  · have h : ¬ (Sum.inl a : Key) = Sum.inl b := fun q => e (Sum.inl.inj q)
    rw [decide_eq_false h]
    exact (beq_eq_false_iff_ne.mpr e).symm
theorem key_rr (a b : Str) : decide ((Sum.inr a : Key) = Sum.inr b) = decide (a = b) := by
  by_cases e : a = b
  · subst e; simp
  · have h : ¬ (Sum.inr a : Key) = Sum.inr b := fun q => e (Sum.inr.inj q)
    rw [decide_eq_false h, decide_eq_false e]
theorem key_lr (a : Int) (b : Str) : decide ((Sum.inl a : Key) = Sum.inr b) = false := decide_eq_false (fun q => nomatch q)
theorem key_rl (a : Str) (b : Int) : decide ((Sum.inr a : Key) = Sum.inl b) = false := decide_eq_false (fun q => nomatch q)

def mixKind (prog : Program) (w : World) : PySem.KeyKind prog w Key where
  is := keyIs
  hash := keyH w
  inj := fun v a b ha hb => by
    rcases keyIs_shape ha with ⟨i, t, rfl, rfl⟩ | ⟨x, t, rfl, rfl⟩
    · rcases keyIs_shape hb with ⟨j, u, rfl, e⟩ | ⟨y, u, rfl, e⟩
      · injection e with e1 _; rw [e1]
      · exact nomatch e
    · rcases keyIs_shape hb with ⟨j, u, rfl, e⟩ | ⟨y, u, rfl, e⟩
      · exact nomatch e
      · injection e with e1 _; rw [e1]
  byValue := fun k v h => by
    rcases keyIs_shape h with ⟨i, t, rfl, rfl⟩ | ⟨x, t, rfl, rfl⟩ <;> rfl
  pyHash := fun hv h => by
    rcases keyIs_shape hv with ⟨i, t, rfl, rfl⟩ | ⟨x, t, rfl, rfl⟩
    · exact wpAny_pyHash_int h
    · exact wpAny_pyHash_str h
  eqBool := fun hu hv h => by
    rcases keyIs_shape hu with ⟨i, t, rfl, rfl⟩ | ⟨x, t, rfl, rfl⟩
    · rcases keyIs_shape hv with ⟨j, u, rfl, rfl⟩ | ⟨y, u, rfl, rfl⟩
      · rw [key_ll] at h; exact wpAny_eqBool_int h
      · rw [key_lr] at h; exact SeqAt.EqAt.int_str i t y u _ _ _ _ h
    · rcases keyIs_shape hv with ⟨j, u, rfl, rfl⟩ | ⟨y, u, rfl, rfl⟩
      · rw [key_rl] at h; exact SeqAt.EqAt.str_int x t j u _ _ _ _ h
      · rw [key_rr] at h; exact wpAny_eqBool_str h
  «strs» := fun k x t v h => by
    rcases keyIs_shape h with ⟨i, u, rfl, e⟩ | ⟨y, u, rfl, e⟩
    · exact nomatch e
    · injection e with e1 _
      subst e1
      cases v <;> rfl

theorem mixKind_int (prog : Program) (w : World) (i : Int) (t : Tok) : (mixKind prog w).is (.inl i) (.int i t) = true := keyIs_int i t
theorem mixKind_str (prog : Program) (w : World) (x : Str) (t : Tok) : (mixKind prog w).is (.inr x) (.str x t) = true := keyIs_str x t
end L2

namespace L2
open PySem PySem.Spec PyProof.Rows

/-- a value, without the heap -/
inductive V where
  | non | bl (b : Bool) | int (i : Int) | str (x : Str) | byt (b : Array UInt8) | flt (b : UInt64) | ref (a : Addr) | ty (n : String)
  deriving DecidableEq

def RelV : V → Value → Prop
  | .non, u => u = Value.none
  | .bl b, u => u = Value.bool b
  | .int i, u => ∃ t, u = Value.int i t
  | .str x, u => ∃ t, u = Value.str x t
  | .byt b, u => ∃ t, u = Value.bytes b t
  | .flt b, u => ∃ t, u = Value.float b t
  | .ref a, u => u = Value.ref a
  | .ty n, u => u = Value.type n

abbrev Vals : List V → List Value → Prop := Paired RelV
theorem Vals.length {xs : List V} {us : List Value} (r : Vals xs us) : xs.length = us.length := Paired.length r
theorem Vals.get : ∀ {xs : List V} {us : List Value} {i : Nat} {x : V}, Vals xs us → xs[i]? = some x → ∃ u, us[i]? = some u ∧ RelV x u
  | _, _, _, _, .nil, e => by simp at e
  | _, _, 0, _, .cons r _, e => by simp at e; subst e; exact ⟨_, rfl, r⟩
  | _, _, i + 1, x, .cons _ t, e => by
    obtain ⟨u, h1, h2⟩ := Vals.get (i := i) (x := x) t (by simpa using e)
    exact ⟨u, by simpa using h1, h2⟩
theorem Vals.set {x : V} {u : Value} (r : RelV x u) : ∀ {xs : List V} {us : List Value} (i : Nat), Vals xs us → Vals (xs.set i x) (us.set i u)
  | _, _, _, .nil => .nil
  | _, _, 0, .cons _ t => .cons r t
  | _, _, i + 1, .cons q t => .cons q (Vals.set r i t)
theorem Vals.append {xs ys : List V} {us ws : List Value} (h : Vals xs us) (s : Vals ys ws) : Vals (xs ++ ys) (us ++ ws) := by
  induction h with
  | nil => exact s
  | cons r t ih => exact .cons r ih
theorem Vals.take : ∀ {xs : List V} {us : List Value} (n : Nat), Vals xs us → Vals (xs.take n) (us.take n)
  | _, _, 0, _ => .nil
  | _, _, _ + 1, .nil => .nil
  | _, _, n + 1, .cons r t => .cons r (Vals.take n t)
theorem Vals.drop : ∀ {xs : List V} {us : List Value} (n : Nat), Vals xs us → Vals (xs.drop n) (us.drop n)
  | _, _, 0, r => r
  | _, _, _ + 1, .nil => .nil
  | _, _, n + 1, .cons _ t => Vals.drop n t
def RelO : Option V → Option Value → Prop
  | some v, some u => RelV v u
  | none, none => True
  | _, _ => False
def KV {κ : Type} : List (κ × V) → List (κ × Value) → Prop := Paired fun (p : κ × V) (q : κ × Value) => p.1 = q.1 ∧ RelV p.2 q.2

/-- a key of a dict (00_mix): an int or a text -/
def kV : Key → V
  | .inl i => .int i
  | .inr x => .str x

/-- what stands at a tracked address -/
inductive HO where
  /-- a list -/
  | lst (xs : List V)
  /-- a tuple (never changes) -/
  | tup (xs : List V)
  /-- a dict whose keys are ints and texts; one whose keys are tuples of ints and texts (the empty one is both) -/
  | dK (kvs : List (Key × V)) | dT (kvs : List (List Key × V))
  /-- a set of ints: its members, its size -/
  | set (S : Int → Bool) (n : Nat)
  /-- an instance of the class at C, its dict at dx, its attributes -/
  | ins (C dx : Addr) (fs : List (Str × V))
  /-- the dict of the instance at x -/
  | own (x : Addr)
  /-- the dict of an exception -/
  | xd (fs : List (Str × V))
  /-- a bound method, f of x -/
  | met (f x : Addr)
  /-- a range object lo, lo + 1, .. below hi -/
  | rng (lo hi : Int)
  /-- a thing that is known to the object (the script; a dict while a loop walks it): read, never written while it is so -/
  | frz (o : Obj) (u : HO)
  /-- a code object's table -/
  | tbl (ps : Array Value)
  /-- any other thing, by what is true of its one object (a def of one's own: SetO a S n := HO.ext fun h => ..) -/
  | ext (φ : Heap → Prop)

abbrev Hp := Addr → Option HO
def upd (H : Hp) (a : Addr) (o : HO) : Hp := fun b => if b = a then some o else H b
theorem upd_same {H : Hp} {a : Addr} {o : HO} : upd H a o a = some o := by unfold upd; rw [if_pos rfl]
theorem upd_ne {H : Hp} {a b : Addr} {o : HO} (h : b ≠ a) : upd H a o b = H b := by unfold upd; rw [if_neg h]
theorem upd_upd {H : Hp} {a : Addr} {o u : HO} : upd (upd H a o) a u = upd H a u := by
  funext b; unfold upd; split <;> rfl
/-- two objects of different content stand apart -/
theorem ne_of {H : Hp} {a b : Addr} {o u : HO} (h : H a = some o) (h' : H b = some u) (d : o ≠ u) : a ≠ b := by
  intro e; subst e; rw [h] at h'; exact d (Option.some.inj h')
theorem ne_of_none {H : Hp} {a b : Addr} {o : HO} (h : H a = some o) (h' : H b = none) : a ≠ b := by
  intro e; subst e; rw [h] at h'; cases h'

section
variable (P : Program) (w : World)
def ObjOk (H : Hp) (h : Heap) (a : Addr) : HO → Prop
  | .lst xs => xs.length ≤ sizeLine ∧ ∃ (its : List Value) (n : Nat), Vals xs its ∧ h.get? a = some { cls := .type "list", data := .seq its.toArray n }
  | .tup xs => xs.length ≤ sizeLine ∧ ∃ its : List Value, Vals xs its ∧ IsTup h a its.toArray
  | .dK kvs => kvs.length ≤ sizeLine ∧ (a == sysModules) = false ∧ ∃ vs, KV kvs vs ∧ h.DictOf (mixKind P w) a vs
  | .dT kvs => kvs.length ≤ sizeLine ∧ (a == sysModules) = false ∧ ∃ xs : List (List Key × Addr × Value),
      Paired (fun (p : List Key × V) (q : List Key × Addr × Value) => p.1 = q.1 ∧ H q.2.1 = some (.tup (p.1.map kV)) ∧ RelV p.2 q.2.2) kvs xs ∧
      ∃ o es ep, h.get? a = some o ∧ o.ExactDict ∧ o.data = .dict es ep ∧ es.toList = xs.map (entryOfKey (tupleKind (mixKind P w))) ∧ (xs.map (·.1)).Nodup
  | .set S n => h.SetOf (intKind P w) a S n
  | .ins C dx fs => H dx = some (.own a) ∧ fs.length ≤ 1000 ∧ dx ≠ a ∧ h.get? a = some (PySem.W.instObj C dx) ∧
      ∃ mA, h.Ns1 dx mA ∧ (∀ f, RelO (fs.lookup f) (mA f)) ∧ PySem.Within mA (fs.map (·.1))
  | .own _ => ∃ o, h.get? a = some o
  | .xd fs => ∃ mA, h.Ns1 a mA ∧ ∀ f, RelO (fs.lookup f) (mA f)
  | .rng lo hi => ∃ t u v, h.get? a = some { cls := .type "range", data := .fields #[.int lo t, .int hi u, .int 1 v] }
  | .frz o u => h.get? a = some o ∧ ObjOk H h a u
  | .tbl ps => h.get? a = some { cls := .none, data := .fields ps }
  | .met f x => h.get? a = some (PySem.W.methodObj (.ref f) (.ref x))
  | .ext φ => φ h ∧ (∃ o, h.get? a = some o) ∧ ∀ h1 h2 : Heap, φ h1 → (∀ o, h1.get? a = some o → h2.get? a = some o) → φ h2
/-- the abstract heap is held -/
def HOk (H : Hp) (h : Heap) : Prop := ∀ a o, H a = some o → ObjOk P w H h a o
end

section
variable {P : Program} {w : World} {H H' : Hp} {h h' : Heap} {a : Addr} {o : HO}
theorem ObjOk.lt (x : ObjOk P w H h a o) : a < h.objs.size := by
  cases o with
  | lst xs => obtain ⟨_, _, _, _, e⟩ := x; exact Heap.lt_size e
  | tup xs => obtain ⟨_, _, _, p⟩ := x; exact p.lt
  | dK kvs => obtain ⟨_, _, _, _, o, _, _, e, _⟩ := x; exact Heap.lt_size e
  | dT kvs => obtain ⟨_, _, _, _, o, _, _, e, _⟩ := x; exact Heap.lt_size e
  | set S n => obtain ⟨o, _, _, _, e, _⟩ := x; exact Heap.lt_size e
  | ins C dx fs => obtain ⟨_, _, _, e, _⟩ := x; exact Heap.lt_size e
  | own y => obtain ⟨_, e⟩ := x; exact Heap.lt_size e
  | xd fs => obtain ⟨_, ⟨_, _, _, e, _⟩, _⟩ := x; exact Heap.lt_size e
  | rng lo hi => obtain ⟨_, _, _, e⟩ := x; exact Heap.lt_size e
  | frz ob u => obtain ⟨e, _⟩ := x; exact Heap.lt_size e
  | tbl ps => exact Heap.lt_size (show h.get? a = some _ from x)
  | met f y => exact Heap.lt_size (show h.get? a = some _ from x)
  | ext φ => obtain ⟨_, ⟨_, e⟩, _⟩ := x; exact Heap.lt_size e
theorem Paired.mapP {α β : Type} {F G : α → β → Prop} : ∀ {l₁ : List α} {l₂ : List β}, Paired F l₁ l₂ → (∀ a b, F a b → G a b) → Paired G l₁ l₂
  := by
  intro l₁ l₂ h f
  induction h with
  | nil => exact .nil
  | cons r t ih => exact .cons (f _ _ r) ih
/-- what an object's description leans on: its own object, its own dict, the tuples -/
theorem ObjOk.stay (x : ObjOk P w H h a o) (k : ∀ b u, (b = a ∨ H b = some (.own a)) → h.get? b = some u → h'.get? b = some u)
    (ho : ∀ b, H b = some (.own a) → H' b = some (.own a)) (ht : ∀ b xs, H b = some (.tup xs) → H' b = some (.tup xs)) : ObjOk P w H' h' a o := by
  induction o with
  | lst xs => obtain ⟨z, its, n, r, e⟩ := x; exact ⟨z, its, n, r, k _ _ (.inl rfl) e⟩
  | tup xs => obtain ⟨z, its, r, ob, e, c⟩ := x; exact ⟨z, its, r, ob, k _ _ (.inl rfl) e, c⟩
  | dK kvs => obtain ⟨z, y, vs, r, ob, es, ep, e, c⟩ := x; exact ⟨z, y, vs, r, ob, es, ep, k _ _ (.inl rfl) e, c⟩
  | dT kvs =>
    obtain ⟨z, y, xs, r, ob, es, ep, e, c⟩ := x
    exact ⟨z, y, xs, Paired.mapP r fun p q z => ⟨z.1, ht _ _ z.2.1, z.2.2⟩, ob, es, ep, k _ _ (.inl rfl) e, c⟩
  | set S n => obtain ⟨ob, es, ep, t, e, c⟩ := x; exact ⟨ob, es, ep, t, k _ _ (.inl rfl) e, c⟩
  | ins C dx fs =>
    obtain ⟨d, z, ne, e, mA, ⟨od, es, ep, e2, c⟩, r⟩ := x
    exact ⟨ho _ d, z, ne, k _ _ (.inl rfl) e, mA, ⟨od, es, ep, k _ _ (.inr d) e2, c⟩, r⟩
  | own y => obtain ⟨ob, e⟩ := x; exact ⟨ob, k _ _ (.inl rfl) e⟩
  | xd fs => obtain ⟨mA, ⟨od, es, ep, e, c⟩, r⟩ := x; exact ⟨mA, ⟨od, es, ep, k _ _ (.inl rfl) e, c⟩, r⟩
  | rng lo hi => obtain ⟨t, u, v, e⟩ := x; exact ⟨t, u, v, k _ _ (.inl rfl) e⟩
  | frz ob u ih => obtain ⟨e, q⟩ := x; exact ⟨k _ _ (.inl rfl) e, ih q⟩
  | tbl ps =>
    have e : h.get? a = some { cls := .none, data := .fields ps } := x
    show h'.get? a = some { cls := .none, data := .fields ps }
    exact k a _ (.inl rfl) e
  | met f y =>
    have e : h.get? a = some (PySem.W.methodObj (.ref f) (.ref y)) := x
    show h'.get? a = some (PySem.W.methodObj (.ref f) (.ref y))
    exact k a _ (.inl rfl) e
  | ext φ => obtain ⟨p, ⟨o, e⟩, st⟩ := x; exact ⟨st _ _ p fun o q => k _ _ (.inl rfl) q, ⟨o, k _ _ (.inl rfl) e⟩, st⟩
theorem HOk.lt (x : HOk P w H h) (e : H a = some o) : a < h.objs.size := (x a o e).lt
theorem HOk.fresh (x : HOk P w H h) (e : h.objs.size ≤ a) : H a = none := by
  cases q : H a with
  | none => rfl
  | some u => exact absurd (Nat.lt_of_lt_of_le (x.lt q) e) (Nat.lt_irrefl _)
/-- every object of the heap is kept -/
theorem HOk.kept (x : HOk P w H h) (k : ∀ b u, h.get? b = some u → h'.get? b = some u) : HOk P w H h' := fun a o e =>
  (x a o e).stay (fun b u _ q => k b u q) (fun _ q => q) fun _ _ q => q
/-- a new object is laid and tracked -/
theorem HOk.laid (x : HOk P w H h) (k : ∀ b u, h.get? b = some u → h'.get? b = some u) (hp : h.objs.size ≤ a) (new : ObjOk P w (upd H a o) h' a o) : HOk P w (upd H a o) h' := fun b u e => by
  have hn := x.fresh hp
  by_cases hb : b = a
  · subst hb; rw [upd_same] at e; cases e; exact new
  · rw [upd_ne hb] at e
    exact (x b u e).stay (fun c v _ q => k c v q) (fun c q => by rw [upd_ne (ne_of_none q hn)]; exact q) fun c xs q => by rw [upd_ne (ne_of_none q hn)]; exact q
end

/-- what may be read as u: it is u, or a known u -/
def Rd (H : Hp) (a : Addr) (u : HO) : Prop := H a = some u ∨ ∃ o, H a = some (.frz o u)
theorem Rd.ok {P : Program} {w : World} {H : Hp} {h : Heap} {a : Addr} {u : HO} (r : Rd H a u) (x : HOk P w H h) : ObjOk P w H h a u := by
  rcases r with r | ⟨o, r⟩
  · exact x a u r
  · obtain ⟨_, q⟩ := x a _ r
    exact q
/-- what may be written -/
def Mut : Option HO → Prop
  | some (.lst _) => True
  | some (.dK _) => True
  | some (.dT _) => True
  | some (.set _ _) => True
  | some (.ins _ _ _) => True
  | some (.ext _) => True
  | _ => False
section
variable {P : Program} {w : World} {H : Hp} {h h' : Heap} {x e : Addr} {o' : HO}
/-- the object at e is changed: x itself, or the dict of the instance x -/
theorem HOk.write (ok : HOk P w H h) (mu : Mut (H x)) (he : e = x ∨ H e = some (.own x)) (k : ∀ b u, b ≠ e → h.get? b = some u → h'.get? b = some u) (heo : ∃ u, h'.get? e = some u)
    (new : ObjOk P w (upd H x o') h' x o') : HOk P w (upd H x o') h' := fun b u q => by
  have nown : ∀ c y, H c = some (.own y) → c ≠ x := fun c y r z => by subst z; rw [r] at mu; exact mu
  have ntup : ∀ c xs, H c = some (.tup xs) → c ≠ x := fun c xs r z => by subst z; rw [r] at mu; exact mu
  by_cases hb : b = x
  · subst hb; rw [upd_same] at q; cases q; exact new
  · rw [upd_ne hb] at q
    by_cases hbe : b = e
    · have q' : H b = some (.own x) := by
        rcases he with z | z
        · exact absurd (hbe.trans z) hb
        · rw [hbe]; exact z
      rw [q] at q'; cases q'
      obtain ⟨v, hv⟩ := heo
      exact ⟨v, by rw [hbe]; exact hv⟩
    · refine (ok b u q).stay (fun c v hc r => k c v ?_ r) (fun c r => by rw [upd_ne (nown c b r)]; exact r) fun c xs r => by rw [upd_ne (ntup c xs r)]; exact r
      rcases hc with rfl | hc
      · exact hbe
      · rintro rfl
        rcases he with z | z
        · exact nown c b hc z
        · rw [hc] at z; cases z; exact hb rfl
end

/-! ### kept unless tracked; of the frames at fs (the callers') the slots may change (an exception that passes writes there); of the records at ex (iterators) nothing is said -/
structure Un (fs ex : List Addr) (H H' : Hp) (h h' : Heap) : Prop where
  keep : ∀ b o, h.get? b = some o → H b = none → b ∉ fs → b ∉ ex → h'.get? b = some o
  slot : ∀ b o, h.get? b = some o → H b = none → b ∈ fs → b ∉ ex → ∃ sl, h'.get? b = some { o with slots := sl }
  free : ∀ b o, h.get? b = some o → H b = none → b ∉ ex → H' b = none
  there : ∀ b o, h.get? b = some o → b ∉ ex → ∃ o', h'.get? b = some o'
  tups : ∀ b xs, H b = some (.tup xs) → H' b = some (.tup xs)
  frzs : ∀ b o u, H b = some (.frz o u) → H' b = some (.frz o u)
  tbls : ∀ b ps, H b = some (.tbl ps) → ∃ more, H' b = some (.tbl (ps ++ more))
section
variable {fs fs' ex ex' : List Addr} {H H1 H2 : Hp} {h h1 h2 h' : Heap} {a x e : Addr} {o : HO}
theorem Un.any (u : Un fs ex H H1 h h1) {b : Addr} {ob : Obj} (q : h.get? b = some ob) (n : H b = none) (hx : b ∉ ex) : ∃ sl, h1.get? b = some { ob with slots := sl } := by
  by_cases hb : b ∈ fs
  · exact u.slot b ob q n hb hx
  · exact ⟨ob.slots, u.keep b ob q n hb hx⟩
theorem Un.kept (k : ∀ b u, h.get? b = some u → h'.get? b = some u) : Un fs ex H H h h' :=
  ⟨fun b ob q _ _ _ => k b ob q, fun b ob q _ _ _ => ⟨ob.slots, k b ob q⟩, fun _ _ _ n _ => n, fun b ob q _ => ⟨ob, k b ob q⟩, fun _ _ q => q, fun _ _ _ q => q, fun _ ps q => ⟨#[], by rw [q]; simp⟩⟩
theorem Un.refl : Un fs ex H H h h := Un.kept fun _ _ q => q
theorem Un.laid (k : ∀ b u, h.get? b = some u → h'.get? b = some u) (hp : h.objs.size ≤ a) (hn : H a = none) : Un fs ex H (upd H a o) h h' where
  keep := fun b u q _ _ _ => k b u q
  slot := fun b u q _ _ _ => ⟨u.slots, k b u q⟩
  free := fun b u q n _ => by rw [upd_ne (Nat.ne_of_lt (Nat.lt_of_lt_of_le (Heap.lt_size q) hp))]; exact n
  there := fun b u q _ => ⟨u, k b u q⟩
  tups := fun b xs q => by rw [upd_ne (ne_of_none q hn)]; exact q
  frzs := fun b u xs q => by rw [upd_ne (ne_of_none q hn)]; exact q
  tbls := fun b ps q => ⟨#[], by rw [upd_ne (ne_of_none q hn), q]; simp⟩
theorem Un.write (mu : Mut (H x)) (he : e = x ∨ H e = some (.own x)) (k : ∀ b u, b ≠ e → h.get? b = some u → h'.get? b = some u) (heo : ∃ u, h'.get? e = some u) : Un fs ex H (upd H x o) h h' := by
  have hx : ∀ b, H b = none → b ≠ x := fun b n z => by subst z; rw [n] at mu; exact mu
  have hb : ∀ b, H b = none → b ≠ e := fun b n z => by
    subst z
    rcases he with r | r
    · exact hx b n r
    · rw [n] at r; cases r
  have hm : ∀ b u, H b = some u → ¬ Mut (some u) → b ≠ x := fun b u q nm z => by subst z; rw [q] at mu; exact nm mu
  refine ⟨fun b u q n _ _ => k b u (hb b n) q, fun b u q n _ _ => ⟨u.slots, k b u (hb b n) q⟩, fun b u q n _ => by rw [upd_ne (hx b n)]; exact n, fun b u q _ => ?_,
    fun b xs q => by rw [upd_ne (hm b _ q fun z => z)]; exact q, fun b u xs q => by rw [upd_ne (hm b _ q fun z => z)]; exact q, fun b ps q => ⟨#[], by rw [upd_ne (hm b _ q fun z => z), q]; simp⟩⟩
  by_cases hbe : b = e
  · subst hbe; exact heo
  · exact ⟨u, k b u hbe q⟩
end

/-! ### the heap without what is tracked -/
def trk (h : Heap) (H : Hp) : List Addr := (List.range h.objs.size).filter fun a => (H a).isSome
def hidT (h : Heap) (H : Hp) : Heap := PySem.W.hideAll h (trk h H)
theorem hidT_size (h : Heap) (H : Hp) : (hidT h H).objs.size = h.objs.size := PySem.W.hideAll_size _ _
theorem hidT_get {h : Heap} {H : Hp} {b : Addr} {o : Obj} (e : h.get? b = some o) (n : H b = none) : (hidT h H).get? b = some o :=
  PySem.W.hideAll_get _ e fun hm => by
    have q : (H b).isSome = true := (List.mem_filter.mp hm).2
    rw [n] at q; simp at q
theorem of_hidT {h : Heap} {H : Hp} {b : Addr} {o : Obj} (e : (hidT h H).get? b = some o) : h.get? b = some o ∧ H b = none := by
  have e' : h.get? b = some o := PySem.W.of_hideAll (trk h H) e
  refine ⟨e', ?_⟩
  cases q : H b with
  | none => rfl
  | some x =>
    have hm : b ∈ trk h H := List.mem_filter.mpr ⟨List.mem_range.mpr (Heap.lt_size e'), by simp [q]⟩
    have z : (hidT h H).get? b = none := PySem.W.hideAll_none (trk h H) hm
    rw [z] at e; cases e

/-! ### OpenK's ledger, filled with every new object but one -/
def allNews (g h : Heap) (L : Addr) : List (Addr × Obj) := (List.range h.objs.size).filterMap fun a => if a = L ∨ (g.get? a).isSome = true then none else (h.get? a).map fun o => (a, o)
def rest (g h : Heap) (L d : Addr) : List (Addr × Obj) := (allNews g h L).filter fun p => decide (p.1 ≠ d)
end L2

namespace L2
open PySem PySem.Spec PyProof.Rows

/-- the module's facts, over the base: the heap at the law's entry without what is tracked there -/
structure Mod (K : PySem.W.Frag) (mg : Str → Option Value) (base : Heap) : Prop where
  kin : K.In base
  glob : base.Ns mainGlobals mg
  blt : ∃ mb, base.Ns builtinsNs mb ∧ ∀ x : Str, x ≠ "__name__" → mb x = bootBuiltins x
  nolimit : base.NoLimit

/-- the context: a def's body (or a comprehension's block) running. base: fixed through the whole law; s₀, H₀: the entry; outer: the frames whose slots others may change (a def's callers); stack: all frames that run;
   ex: iterators that were made ahead of the entry and are walked here (a comprehension's); fn: the names whose cells were made at the entry (a def: all; a comprehension's block: its own); calm: not within an except suite; pn: pins that every state bears; xe: what is wanted of an exception that leaves the code -/
structure Cx where
  prog : Program
  w : World
  K : PySem.W.Frag
  mg : Str → Option Value
  base : Heap
  A : Around
  N : List Str
  s₀ : Shared
  H₀ : Hp
  env : Env
  outer : List Env
  stack : List Env
  ex : List Addr
  fn : Str → Bool
  calm : Bool
  pn : List (Addr × Obj)
  xe : Value → Shared → Prop
/-- the callers' frames -/
def frs (l : List Env) : List Addr := l.filterMap (·.frame)
abbrev Cx.fs (X : Cx) : List Addr := frs X.outer

def Vis (sc : Scope) (x : Str) : Prop := sc.names.lookup x = some .local ∨ sc.names.lookup x = some .cell ∨ sc.names.lookup x = some .free
def Loc (sc : Scope) (x : Str) : Prop := sc.names.lookup x = some .local ∨ sc.names.lookup x = some .cell
def Look (env : Env) (h : Heap) (m : Str → Option Value) (x : Str) (u : Value) : Prop :=
  (env.kindOf x = some .local ∧ m x = some u) ∨ ((env.kindOf x = some .cell ∨ env.kindOf x = some .free) ∧ ∃ c, env.cells.lookup x = some c ∧ h.IsCell c (some u))

structure Cx.Ok (X : Cx) : Prop where
  mod : Mod X.K X.mg X.base
  kind : X.env.scope.kind = .function
  glob : X.env.globals = mainGlobals
  blt : X.env.builtins = builtinsNs
  above : X.s₀.heap.objs.size ≤ X.env.locals
  inj : ∀ x y c, X.env.cells.lookup x = some c → X.env.cells.lookup y = some c → x = y
  has : ∀ x, (X.env.kindOf x = some .cell ∨ X.env.kindOf x = some .free) → ∃ c, X.env.cells.lookup x = some c
  cab : ∀ x c, X.fn x = true → X.env.cells.lookup x = some c → X.s₀.heap.objs.size ≤ c
  hd : X.calm = true → X.A.handled = none
  frames : X.A.frames = some X.stack
  stk : X.stack = X.outer ∨ (X.stack = X.env :: X.outer ∧ X.env.frame = some X.env.locals)
  exf : ∀ b ∈ X.ex, b ≠ X.env.locals ∧ ∀ x c, X.env.cells.lookup x = some c → c ≠ b
  bs : ∀ b o, X.base.get? b = some o → X.s₀.heap.get? b = some o ∧ X.H₀ b = none
  bsz : X.base.objs.size ≤ X.s₀.heap.objs.size
  noex : ∀ b o, X.base.get? b = some o → b ∉ X.ex
  exfs : ∀ b ∈ X.ex, b ∉ X.fs
  funs : X.s₀.heap.FunFrames X.base X.outer
  frf : ∀ b ∈ X.fs, X.H₀ b = none

structure Inv (X : Cx) (pins : List (Addr × Obj)) (σ : List (Option V)) (H : Hp) (s : Shared) : Prop where
  ok : X.Ok
  os : s.os = X.s₀.os
  bare : AllBare s.gens
  base : Un X.fs X.ex X.H₀ H X.s₀.heap s.heap
  loc : ∃ m, s.heap.Ns X.env.locals m ∧ ∀ (i : Nat) (x : Str) (v : V), X.N[i]? = some x → σ[i]? = some (some v) → Vis X.env.scope x → ∃ u, RelV v u ∧ Look X.env s.heap m x u
  cell : ∀ x c, X.env.cells.lookup x = some c → ∃ v, s.heap.IsCell c v
  free : H X.env.locals = none
  freeC : ∀ x c, X.env.cells.lookup x = some c → H c = none
  pin : ∀ p ∈ X.pn ++ pins, s.heap.get? p.1 = some p.2 ∧ H p.1 = none ∧ p.1 ≠ X.env.locals ∧ p.1 ∉ X.fs ∧ ∀ v, p.2.data ≠ .cell v
  hok : HOk X.prog X.w H s.heap
  len : σ.length = X.N.length

section
variable {X : Cx} {pins : List (Addr × Obj)} {σ : List (Option V)} {H H' : Hp} {s : Shared} {h' : Heap}

theorem Cx.Ok.nofr (ok : X.Ok) {b : Addr} {o : Obj} (e : X.base.get? b = some o) : b ∉ X.fs := fun hb => by
  have := (ok.funs.mem hb).1
  rw [e] at this; cases this
theorem Inv.bs (I : Inv X pins σ H s) : ∀ b o, X.base.get? b = some o → s.heap.get? b = some o ∧ H b = none := fun b o e =>
  ⟨I.base.keep b o (I.ok.bs b o e).1 (I.ok.bs b o e).2 (I.ok.nofr e) (I.ok.noex b o e), I.base.free b o (I.ok.bs b o e).1 (I.ok.bs b o e).2 (I.ok.noex b o e)⟩
theorem Inv.bk (I : Inv X pins σ H s) : ∀ b o, X.base.get? b = some o → s.heap.get? b = some o := fun b o e => (I.bs b o e).1
theorem Inv.mod (I : Inv X pins σ H s) : Mod X.K X.mg X.base := I.ok.mod
theorem Inv.kIn (I : Inv X pins σ H s) : X.K.In s.heap := I.ok.mod.kin.keeps I.bk
theorem Inv.lt (I : Inv X pins σ H s) : X.env.locals < s.heap.objs.size := let ⟨_, hn, _⟩ := I.loc; hn.lt
theorem Inv.sz (I : Inv X pins σ H s) : X.s₀.heap.objs.size ≤ s.heap.objs.size := Nat.le_trans I.ok.above (Nat.le_of_lt I.lt)
theorem Inv.nofs (I : Inv X pins σ H s) {a : Addr} (h : s.heap.objs.size ≤ a) : a ∉ X.fs := fun hb => by
  obtain ⟨_, o, ho, _⟩ := I.ok.funs.mem hb
  exact absurd (Nat.lt_of_lt_of_le (Heap.lt_size ho) (Nat.le_trans I.sz h)) (Nat.lt_irrefl _)
theorem Inv.cne (I : Inv X pins σ H s) : ∀ x c, X.env.cells.lookup x = some c → c ≠ X.env.locals := fun x c e z => by
  obtain ⟨v, o, ho, hd⟩ := I.cell x c e
  obtain ⟨m, ⟨o', es, ep, ho', hd', _⟩, _⟩ := I.loc
  rw [z, ho'] at ho; cases ho; rw [hd'] at hd; cases hd
theorem Inv.funs (I : Inv X pins σ H s) : s.heap.FunFrames X.base X.outer := by
  have all : ∀ (l : List Env), (∀ b ∈ frs l, b ∈ X.fs) → X.s₀.heap.FunFrames X.base l → s.heap.FunFrames X.base l := by
    intro l
    induction l with
    | nil => intro _ _; trivial
    | cons env r ih =>
      intro hs hl
      obtain ⟨hk, ⟨L, o, hf, hn, ho, hd⟩, hr⟩ := hl
      have hL : L ∈ X.fs := hs L (by unfold frs; rw [List.filterMap_cons, hf]; exact List.mem_cons_self)
      obtain ⟨sl, e⟩ := I.base.slot L o ho (I.ok.frf L hL) hL fun z => I.ok.exfs L z hL
      exact ⟨hk, ⟨L, _, hf, hn, e, hd⟩, ih (fun b hb => hs b (by unfold frs; rw [List.filterMap_cons, hf]; exact List.mem_cons_of_mem _ hb)) hr⟩
  exact all X.outer (fun _ hb => hb) I.ok.funs

/-- the frames that run, for a call -/
theorem Inv.stack (I : Inv X pins σ H s) : s.heap.FunFrames X.base X.stack := by
  rcases I.ok.stk with e | ⟨e, hf⟩
  · rw [e]; exact I.funs
  · rw [e]
    obtain ⟨m, hn, _⟩ := I.loc
    refine .cons (by rw [I.ok.kind]; decide) hf hn ?_ I.funs
    exact Heap.get?_none_of_le (Nat.le_trans I.ok.bsz I.ok.above)
theorem Inv.stkSub (I : Inv X pins σ H s) : ∀ b ∈ frs X.stack, b ∈ X.env.locals :: X.fs := fun b hb => by
  rcases I.ok.stk with e | ⟨e, hf⟩
  · rw [e] at hb; exact List.mem_cons_of_mem _ hb
  · rw [e] at hb
    unfold frs at hb
    rw [List.filterMap_cons, hf] at hb
    exact hb
theorem Inv.stkFree (I : Inv X pins σ H s) : ∀ b ∈ frs X.stack, H b = none := fun b hb => by
  rcases List.mem_cons.mp (I.stkSub b hb) with e | hb
  · rw [e]; exact I.free
  · obtain ⟨_, o, ho, _⟩ := I.ok.funs.mem hb
    exact I.base.free b o ho (I.ok.frf b hb) fun z => I.ok.exfs b z hb

/-- THE STEP: the untracked objects but the frame and the records at ch are kept (the callers' frames up to slots), the frame's map is kept, the new abstract heap is held -/
theorem Inv.step {g' : Array GenState} {t' : Nat} {d' : Drawn} {ch : List Addr} (I : Inv X pins σ H s)
    (hch : ∀ b ∈ ch, (b ∈ X.ex ∨ X.s₀.heap.objs.size ≤ b) ∧ b ≠ X.env.locals ∧ (∀ x c, X.env.cells.lookup x = some c → c ≠ b) ∧ ∀ p ∈ X.pn ++ pins, p.1 ≠ b)
    (keep : ∀ b o, b ≠ X.env.locals → b ∉ X.fs → b ∉ ch → s.heap.get? b = some o → H b = none → h'.get? b = some o)
    (slot : ∀ b o, b ≠ X.env.locals → b ∈ X.fs → b ∉ ch → s.heap.get? b = some o → H b = none → ∃ sl, h'.get? b = some { o with slots := sl }) (free : ∀ b o, b ∉ ch → s.heap.get? b = some o → H b = none → H' b = none)
    (there : ∀ b o, b ∉ ch → s.heap.get? b = some o → ∃ o', h'.get? b = some o')
    (tups : ∀ b xs, H b = some (.tup xs) → H' b = some (.tup xs)) (frzs : ∀ b o u, H b = some (.frz o u) → H' b = some (.frz o u)) (tbls : ∀ b ps, H b = some (.tbl ps) → ∃ more, H' b = some (.tbl (ps ++ more)))
    (ns : ∀ m, s.heap.Ns X.env.locals m → h'.Ns X.env.locals m) (hok : HOk X.prog X.w H' h') (hg : AllBare g') :
    Inv X pins σ H' { s with heap := h', gens := g', drawn := d', toks := t' } := by
  have neL : ∀ b o, X.s₀.heap.get? b = some o → b ≠ X.env.locals := fun b o e => Nat.ne_of_lt (Nat.lt_of_lt_of_le (Heap.lt_size e) I.ok.above)
  have neC : ∀ b o, X.s₀.heap.get? b = some o → b ∉ X.ex → b ∉ ch := fun b o e hx hb => by
    rcases (hch b hb).1 with z | z
    · exact hx z
    · exact absurd (Nat.lt_of_lt_of_le (Heap.lt_size e) z) (Nat.lt_irrefl _)
  have cellK : ∀ x c, X.env.cells.lookup x = some c → ∀ v, s.heap.IsCell c v → h'.IsCell c v := fun x c e v ⟨o, ho, hd⟩ => by
    have nch : c ∉ ch := fun z => (hch c z).2.2.1 x c e rfl
    by_cases hc : c ∈ X.fs
    · obtain ⟨sl, q⟩ := slot c o (I.cne x c e) hc nch ho (I.freeC x c e)
      exact ⟨_, q, hd⟩
    · exact ⟨o, keep c o (I.cne x c e) hc nch ho (I.freeC x c e), hd⟩
  refine ⟨I.ok, I.os, hg, ⟨fun b o e n hb hx => ?_, fun b o e n hb hx => ?_, fun b o e n hx => ?_, fun b o e hx => ?_, fun b xs e => tups b xs (I.base.tups b xs e), fun b o xs e => frzs b o xs (I.base.frzs b o xs e), fun b ps e => ?_⟩, ?_, fun x c e => ?_, ?_, fun x c e => ?_, fun p hp => ?_, hok, I.len⟩
  · exact keep b o (neL b o e) hb (neC b o e hx) (I.base.keep b o e n hb hx) (I.base.free b o e n hx)
  · obtain ⟨sl, e1⟩ := I.base.slot b o e n hb hx
    obtain ⟨sl', e2⟩ := slot b _ (neL b o e) hb (neC b o e hx) e1 (I.base.free b o e n hx)
    exact ⟨sl', e2⟩
  · obtain ⟨o', e1⟩ := I.base.there b o e hx
    exact free b o' (neC b o e hx) e1 (I.base.free b o e n hx)
  · obtain ⟨o', e1⟩ := I.base.there b o e hx
    exact there b o' (neC b o e hx) e1
  · obtain ⟨m1, e1⟩ := I.base.tbls b ps e
    obtain ⟨m2, e2⟩ := tbls b _ e1
    exact ⟨m1 ++ m2, by rw [e2, Array.append_assoc]⟩
  · obtain ⟨m, hn, hl⟩ := I.loc
    refine ⟨m, ns m hn, fun i x v e1 e2 e3 => ?_⟩
    obtain ⟨u, r, l⟩ := hl i x v e1 e2 e3
    refine ⟨u, r, ?_⟩
    rcases l with l | ⟨k, c, e, z⟩
    · exact .inl l
    · exact .inr ⟨k, c, e, cellK x c e _ z⟩
  · obtain ⟨v, z⟩ := I.cell x c e
    exact ⟨v, cellK x c e v z⟩
  · obtain ⟨m, ⟨o, _, _, ho, _⟩, _⟩ := I.loc
    exact free _ o (fun z => (hch _ z).2.1 rfl) ho I.free
  · obtain ⟨v, o, ho, hd⟩ := I.cell x c e
    exact free c o (fun z => (hch c z).2.2.1 x c e rfl) ho (I.freeC x c e)
  · obtain ⟨e, n, ne, nf, d⟩ := I.pin p hp
    have nch : p.1 ∉ ch := fun z => (hch p.1 z).2.2.2 p hp rfl
    exact ⟨keep p.1 p.2 ne nf nch e n, free p.1 p.2 nch e n, ne, nf, d⟩
/-- .. where the frame's own object is kept too -/
theorem Inv.un {t' : Nat} (I : Inv X pins σ H s) (u : Un X.fs [] H H' s.heap h') (hok : HOk X.prog X.w H' h') : Inv X pins σ H' { s with heap := h', toks := t' } := by
  obtain ⟨m, ⟨o, es, ep, ho, r⟩, _⟩ := id I.loc
  obtain ⟨sl, hL⟩ := u.any ho I.free (by simp)
  exact I.step (g' := s.gens) (d' := s.drawn) (ch := []) (fun _ z => nomatch z) (fun b o _ hb _ e n => u.keep b o e n hb (by simp)) (fun b o _ hb _ e n => u.slot b o e n hb (by simp)) (fun b o _ e n => u.free b o e n (by simp)) (fun b o _ e => u.there b o e (by simp)) u.tups u.frzs u.tbls (fun m' hm => by
    obtain ⟨o', es', ep', ho', r'⟩ := hm
    rw [ho] at ho'; cases ho'
    exact ⟨_, es', ep', hL, r'⟩) hok I.bare
/-- behind a call (or a comprehension's block): the slots of this frame may have changed too, the records at ch may have turned -/
theorem Inv.call {g' : Array GenState} {t' : Nat} {d' : Drawn} {ch : List Addr} (I : Inv X pins σ H s) (u : Un (frs X.stack) ch H H' s.heap h') (hok : HOk X.prog X.w H' h') (hg : AllBare g')
    (hch : ∀ b ∈ ch, (b ∈ X.ex ∨ X.s₀.heap.objs.size ≤ b) ∧ b ≠ X.env.locals ∧ (∀ x c, X.env.cells.lookup x = some c → c ≠ b) ∧ ∀ p ∈ X.pn ++ pins, p.1 ≠ b) :
    Inv X pins σ H' { s with heap := h', gens := g', drawn := d', toks := t' } := by
  obtain ⟨m, ⟨o, es, ep, ho, r⟩, _⟩ := id I.loc
  obtain ⟨sl, hL⟩ := u.any ho I.free fun z => (hch _ z).2.1 rfl
  exact I.step (ch := ch) hch (fun b o hL hb hc e n => u.keep b o e n (fun z => (List.mem_cons.mp (I.stkSub b z)).elim hL hb) hc) (fun b o _ _ hc e n => u.any e n hc) (fun b o hc e n => u.free b o e n hc) (fun b o hc e => u.there b o e hc) u.tups u.frzs u.tbls (fun m' hm => by
    obtain ⟨o', es', ep', ho', r'⟩ := hm
    rw [ho] at ho'; cases ho'
    exact ⟨_, es', ep', hL, r'⟩) hok hg
/-- an untracked record of ours (an iterator) has turned -/
theorem Inv.turned {t' : Nat} {it : Addr} (I : Inv X pins σ H s) (k : ∀ b o, b ≠ it → s.heap.get? b = some o → h'.get? b = some o) (hn : H it = none) (hL : it ≠ X.env.locals)
    (h1 : it ∈ X.ex ∨ X.s₀.heap.objs.size ≤ it) (h2 : ∀ x c, X.env.cells.lookup x = some c → c ≠ it) (h3 : ∀ p ∈ X.pn ++ pins, p.1 ≠ it) : Inv X pins σ H { s with heap := h', toks := t' } := by
  have nit : ∀ b u, H b = some u → b ≠ it := fun b u e z => by rw [z, hn] at e; cases e
  refine I.step (g' := s.gens) (d' := s.drawn) (ch := [it]) (fun b hb => ?_) (fun b o _ _ hc e _ => k b o (fun z => hc (by simp [z])) e) (fun b o _ _ hc e _ => ⟨o.slots, k b o (fun z => hc (by simp [z])) e⟩) (fun _ _ _ _ n => n)
    (fun b o hc e => ⟨o, k b o (fun z => hc (by simp [z])) e⟩) (fun _ _ e => e) (fun _ _ _ e => e) (fun b ps e => ⟨#[], by rw [e]; simp⟩) (fun m hm => ?_) (fun b u e => ?_) I.bare
  · have e : b = it := by simpa using hb
    subst e
    exact ⟨h1, hL, h2, h3⟩
  · obtain ⟨o, es, ep, ho, r⟩ := hm
    exact ⟨o, es, ep, k _ o (Ne.symm hL) ho, r⟩
  · refine (I.hok b u e).stay (fun c v hc q => k c v ?_ q) (fun _ q => q) fun _ _ q => q
    rcases hc with z | z
    · rw [z]; exact nit b u e
    · exact nit c _ z
theorem Inv.tok (I : Inv X pins σ H s) (t : Nat) : Inv X pins σ H { s with toks := t } := I.un (h' := s.heap) (t' := t) Un.refl I.hok
/-- all objects kept -/
theorem Inv.kept {t' : Nat} (I : Inv X pins σ H s) (k : ∀ b u, s.heap.get? b = some u → h'.get? b = some u) : Inv X pins σ H { s with heap := h', toks := t' } := I.un (Un.kept k) (I.hok.kept k)
/-- a new object laid and tracked -/
theorem Inv.laid {a : Addr} {o : HO} {t' : Nat} (I : Inv X pins σ H s) (k : ∀ b u, s.heap.get? b = some u → h'.get? b = some u) (hp : s.heap.objs.size ≤ a) (new : ObjOk X.prog X.w (upd H a o) h' a o) :
    Inv X pins σ (upd H a o) { s with heap := h', toks := t' } := I.un (Un.laid k hp (I.hok.fresh hp)) (I.hok.laid k hp new)
/-- an object written -/
theorem Inv.write {x e : Addr} {o : HO} {t' : Nat} (I : Inv X pins σ H s) (mu : Mut (H x)) (he : e = x ∨ H e = some (.own x)) (k : ∀ b u, b ≠ e → s.heap.get? b = some u → h'.get? b = some u) (heo : ∃ u, h'.get? e = some u)
    (new : ObjOk X.prog X.w (upd H x o) h' x o) : Inv X pins σ (upd H x o) { s with heap := h', toks := t' } := I.un (Un.write mu he k heo) (I.hok.write mu he k heo new)
theorem Inv.pins_of {pins' : List (Addr × Obj)} (I : Inv X pins σ H s) (h : ∀ p ∈ pins', s.heap.get? p.1 = some p.2 ∧ H p.1 = none ∧ p.1 ≠ X.env.locals ∧ p.1 ∉ X.fs ∧ ∀ v, p.2.data ≠ .cell v) : Inv X pins' σ H s :=
  ⟨I.ok, I.os, I.bare, I.base, I.loc, I.cell, I.free, I.freeC, fun p hp => (List.mem_append.mp hp).elim (fun z => I.pin p (List.mem_append_left _ z)) (h p), I.hok, I.len⟩

theorem nodup_ix {N : List Str} (hN : N.Nodup) {i j : Nat} {x : Str} (a : N[i]? = some x) (b : N[j]? = some x) : i = j := by
  obtain ⟨h1, e1⟩ := List.getElem?_eq_some_iff.mp a
  obtain ⟨h2, e2⟩ := List.getElem?_eq_some_iff.mp b
  exact (List.getElem_inj hN).mp (e1.trans e2.symm)

/-- a name is stored; what changed -/
theorem store_ok2 {M : Model} {A : Around} {E : Value → Shared → Prop} {i : Nat} {x : Str} {v : V} {u : Value} {Q : Unit → Shared → Prop} (I : Inv X pins σ H s) (hN : X.N.Nodup) (hi : X.N[i]? = some x) (hx : Loc X.env.scope x) (r : RelV v u)
    (h : ∀ s', Inv X pins (σ.set i (some v)) H s' → (∃ a, Heap.SameBut a s.heap s'.heap ∧ (a = X.env.locals ∨ X.env.cells.lookup x = some a)) → Q () s') (hf : X.fn x = true ∨ X.env.scope.names.lookup x = some .local := by first | exact .inl rfl | exact .inr rfl | assumption) : wpAny M A (storeName X.env x u) Q E s := by
  obtain ⟨m, hn, hl⟩ := id I.loc
  have hcls : (X.env.scope.kind == .class || (X.env.scope.kind == .module && X.env.locals != X.env.globals)) = false := by rw [I.ok.kind]; rfl
  have hiσ : i < σ.length := by rw [I.len]; exact (List.getElem?_eq_some_iff.mp hi).1
  have cne := I.cne
  have tracked : ∀ {a : Addr} {h' : Heap}, (∃ o, s.heap.get? a = some o ∧ H a = none) → Heap.SameBut a s.heap h' → HOk X.prog X.w H h' := fun {a h'} ha hs b ob e => by
    obtain ⟨_, _, hfree⟩ := ha
    refine (I.hok b ob e).stay (fun c w' hc q => (hs.2 c ?_).trans q) (fun _ q => q) fun _ _ q => q
    rintro rfl
    rcases hc with rfl | hc
    · rw [hfree] at e; cases e
    · rw [hfree] at hc; cases hc
  rcases hx with hk | hk
  · refine wpAny_storeName_local hk hn (fun h' hn' hs => ?_) hcls
    obtain ⟨oL, _, _, hoL, _⟩ := id hn
    refine h _ ⟨I.ok, I.os, I.bare, ⟨fun b o e n hb hx => ?_, fun b o e n hb hx => ?_, I.base.free, fun b o e hx => ?_, I.base.tups, I.base.frzs, I.base.tbls⟩, ⟨_, hn', fun j y v' e1 e2 e3 => ?_⟩, fun y c e => ?_, I.free, I.freeC, fun p hp => ?_, tracked ⟨oL, hoL, I.free⟩ hs, by simpa using I.len⟩ ⟨_, hs, .inl rfl⟩
    · exact (hs.2 b (Nat.ne_of_lt (Nat.lt_of_lt_of_le (Heap.lt_size e) I.ok.above))).trans (I.base.keep b o e n hb hx)
    · obtain ⟨sl, e1⟩ := I.base.slot b o e n hb hx
      exact ⟨sl, (hs.2 b (Nat.ne_of_lt (Nat.lt_of_lt_of_le (Heap.lt_size e) I.ok.above))).trans e1⟩
    · obtain ⟨o', e1⟩ := I.base.there b o e hx
      exact ⟨o', (hs.2 b (Nat.ne_of_lt (Nat.lt_of_lt_of_le (Heap.lt_size e) I.ok.above))).trans e1⟩
    · by_cases hj : j = i
      · subst hj
        rw [hi] at e1; cases e1
        rw [List.getElem?_set_self hiσ] at e2
        cases e2
        exact ⟨u, r, .inl ⟨hk, by simp⟩⟩
      · rw [List.getElem?_set_ne (Ne.symm hj)] at e2
        obtain ⟨u', r', q⟩ := hl j y v' e1 e2 e3
        refine ⟨u', r', ?_⟩
        rcases q with ⟨k, e⟩ | ⟨k, c, e, z⟩
        · refine .inl ⟨k, ?_⟩
          have : y ≠ x := fun e => hj (nodup_ix hN e1 (e ▸ hi))
          simp [this, e]
        · exact .inr ⟨k, c, e, z.sameBut hs (cne y c e)⟩
    · obtain ⟨w', z⟩ := I.cell y c e
      exact ⟨w', z.sameBut hs (cne y c e)⟩
    · obtain ⟨e, n, ne, nf, d⟩ := I.pin p hp
      exact ⟨(hs.2 p.1 ne).trans e, n, ne, nf, d⟩
  · have hfn : X.fn x = true := by
      rcases hf with z | z
      · exact z
      · rw [z] at hk; cases hk
    obtain ⟨c, hc⟩ := I.ok.has x (.inl hk)
    obtain ⟨w', z⟩ := I.cell x c hc
    refine wpAny_storeName_cell I.ok.kind hk hc z (fun h' hc' hs => ?_)
    obtain ⟨oc, hoc, hocd⟩ := id z
    refine h { s with heap := h' } ⟨I.ok, I.os, I.bare, ⟨fun b o e n hb hx => ?_, fun b o e n hb hx => ?_, I.base.free, fun b o e hx => ?_, I.base.tups, I.base.frzs, I.base.tbls⟩, ⟨m, hn.sameBut hs (Ne.symm (cne x c hc)), fun j y v' e1 e2 e3 => ?_⟩, fun y c' e => ?_, I.free, I.freeC, fun p hp => ?_, tracked ⟨oc, hoc, I.freeC x c hc⟩ hs, by simpa using I.len⟩ ⟨c, hs, .inr hc⟩
    · exact (hs.2 b (Nat.ne_of_lt (Nat.lt_of_lt_of_le (Heap.lt_size e) (I.ok.cab x c hfn hc)))).trans (I.base.keep b o e n hb hx)
    · obtain ⟨sl, e1⟩ := I.base.slot b o e n hb hx
      exact ⟨sl, (hs.2 b (Nat.ne_of_lt (Nat.lt_of_lt_of_le (Heap.lt_size e) (I.ok.cab x c hfn hc)))).trans e1⟩
    · obtain ⟨o', e1⟩ := I.base.there b o e hx
      exact ⟨o', (hs.2 b (Nat.ne_of_lt (Nat.lt_of_lt_of_le (Heap.lt_size e) (I.ok.cab x c hfn hc)))).trans e1⟩
    · by_cases hj : j = i
      · subst hj
        rw [hi] at e1; cases e1
        rw [List.getElem?_set_self hiσ] at e2
        cases e2
        exact ⟨u, r, .inr ⟨.inl hk, c, hc, hc'⟩⟩
      · rw [List.getElem?_set_ne (Ne.symm hj)] at e2
        obtain ⟨u', r', q⟩ := hl j y v' e1 e2 e3
        refine ⟨u', r', ?_⟩
        rcases q with q | ⟨k, c', e, z'⟩
        · exact .inl q
        · refine .inr ⟨k, c', e, z'.sameBut hs ?_⟩
          rintro rfl
          exact hj (nodup_ix hN e1 (I.ok.inj _ _ _ e hc ▸ hi))
    · by_cases hcc : c' = c
      · subst hcc; exact ⟨_, hc'⟩
      · obtain ⟨w2, z2⟩ := I.cell y c' e
        exact ⟨w2, z2.sameBut hs hcc⟩
    · obtain ⟨e, n, ne, nf, d⟩ := I.pin p hp
      refine ⟨(hs.2 p.1 ?_).trans e, n, ne, nf, d⟩
      intro q
      rw [q, hoc] at e
      have q' : oc = p.2 := Option.some.inj e
      exact d w' (by rw [← q']; exact hocd)
theorem store_ok {M : Model} {A : Around} {E : Value → Shared → Prop} {i : Nat} {x : Str} {v : V} {u : Value} {Q : Unit → Shared → Prop} (I : Inv X pins σ H s) (hN : X.N.Nodup) (hi : X.N[i]? = some x) (hx : Loc X.env.scope x) (r : RelV v u)
    (h : ∀ s', Inv X pins (σ.set i (some v)) H s' → Q () s') (hf : X.fn x = true ∨ X.env.scope.names.lookup x = some .local := by first | exact .inl rfl | exact .inr rfl | assumption) : wpAny M A (storeName X.env x u) Q E s :=
  store_ok2 I hN hi hx r (fun s' I' _ => h s' I') hf
/-- behind a call or a block, the state as it is -/
theorem Inv.call' {s' : Shared} {ch : List Addr} (I : Inv X pins σ H s) (ho : s'.os = s.os) (u : Un (frs X.stack) ch H H' s.heap s'.heap) (hok : HOk X.prog X.w H' s'.heap) (hg : AllBare s'.gens)
    (hch : ∀ b ∈ ch, (b ∈ X.ex ∨ X.s₀.heap.objs.size ≤ b) ∧ b ≠ X.env.locals ∧ (∀ x c, X.env.cells.lookup x = some c → c ≠ b) ∧ ∀ p ∈ X.pn ++ pins, p.1 ≠ b) : Inv X pins σ H' s' := by
  obtain ⟨h', g', d', t', o'⟩ := s'
  have e : o' = s.os := ho
  subst e
  exact I.call (g' := g') (t' := t') (d' := d') u hok hg hch
end

/-! ### the judgements -/
/-- an exception: its class, its own dict's address (where it has one), the abstract heap behind it -/
abbrev XK := Value → Option Addr → Hp → Prop
abbrev St := List (Option V)
abbrev VK := V → Hp → Prop
/-- an expression's reading; a test's; an argument list's -/
abbrev TE := St → Hp → VK → Prop
abbrev TT := St → Hp → (Bool → Hp → Prop) → Prop
abbrev TA := St → Hp → (List V → Hp → Prop) → Prop
/-- what is wanted behind a statement -/
structure Ends where
  nx : St → Hp → Prop
  rt : VK
  bk : St → Hp → Prop := fun _ _ => False
  ct : St → Hp → Prop := fun _ _ => False
abbrev TS := Ends → St → Hp → Prop

def EP (X : Cx) (pins : List (Addr × Obj)) (σ : St) (Q : VK) (u : Value) (s' : Shared) : Prop := ∃ v H', Inv X pins σ H' s' ∧ RelV v u ∧ Q v H'
def TP (X : Cx) (pins : List (Addr × Obj)) (σ : St) (Q : Bool → Hp → Prop) (b : Bool) (s' : Shared) : Prop := ∃ H', Inv X pins σ H' s' ∧ Q b H'
def AP (X : Cx) (pins : List (Addr × Obj)) (σ : St) (Q : List V → Hp → Prop) (us : List Value) (s' : Shared) : Prop := ∃ vs H', Inv X pins σ H' s' ∧ Vals vs us ∧ Q vs H'
def SP (X : Cx) (pins : List (Addr × Obj)) (D : Ends) (f : Flow) (s' : Shared) : Prop :=
  match f with
  | .next => ∃ σ' H', Inv X pins σ' H' s' ∧ D.nx σ' H'
  | .brk => ∃ σ' H', Inv X pins σ' H' s' ∧ D.bk σ' H'
  | .cont => ∃ σ' H', Inv X pins σ' H' s' ∧ D.ct σ' H'
  | .ret u => ∃ v σ' H', Inv X pins σ' H' s' ∧ RelV v u ∧ D.rt v H'

def PE (X : Cx) (e : Expr) (t : TE) : Prop :=
  ∀ (pins : List (Addr × Obj)) (s : Shared) (σ : St) (H : Hp) (Q : VK), Inv X pins σ H s → t σ H Q → wpAny (model X.prog X.w) X.A (eval e X.env) (EP X pins σ Q) X.xe s
def PT (X : Cx) (e : Expr) (t : TT) : Prop :=
  ∀ (pins : List (Addr × Obj)) (s : Shared) (σ : St) (H : Hp) (Q : Bool → Hp → Prop), Inv X pins σ H s → t σ H Q → wpAny (model X.prog X.w) X.A (isTrue e X.env (eval e X.env)) (TP X pins σ Q) X.xe s
/-- a test whatever its 'whole' is (and, or) -/
def PW (X : Cx) (e : Expr) (t : TT) : Prop :=
  ∀ (whole : Sem Value) (pins : List (Addr × Obj)) (s : Shared) (σ : St) (H : Hp) (Q : Bool → Hp → Prop), Inv X pins σ H s → t σ H Q → wpAny (model X.prog X.w) X.A (isTrue e X.env whole) (TP X pins σ Q) X.xe s
theorem PW.pt {X : Cx} {e : Expr} {t : TT} (h : PW X e t) : PT X e t := h _
/-- an argument list (no star), from the left -/
def PA (X : Cx) (es : List Expr) (t : TA) : Prop :=
  ∀ (pos : Pos) (pins : List (Addr × Obj)) (s : Shared) (σ : St) (H : Hp) (Q : List V → Hp → Prop), Inv X pins σ H s → t σ H Q → wpAny (model X.prog X.w) X.A (spliced (backTo pos (starEach es X.env))) (AP X pins σ Q) X.xe s
def PS (X : Cx) (st : Stmt) (t : TS) : Prop :=
  ∀ (pins : List (Addr × Obj)) (s : Shared) (σ : St) (H : Hp) (D : Ends), Inv X pins σ H s → t D σ H → wpAny (model X.prog X.w) X.A (exec st X.env) (SP X pins D) X.xe s
def PSs (X : Cx) (st : List Stmt) (t : TS) : Prop :=
  ∀ (pins : List (Addr × Obj)) (s : Shared) (σ : St) (H : Hp) (D : Ends), Inv X pins σ H s → t D σ H → wpAny (model X.prog X.w) X.A (execs st X.env) (SP X pins D) X.xe s
/-- weaken the end -/
theorem thn {α : Type} {t : Sem α} {Q Q' : α → Shared → Prop} {M : Model} {A : Around} {E : Value → Shared → Prop} {s : Shared} (h : wpAny M A t Q E s) (hQ : ∀ a s, Q a s → Q' a s) : wpAny M A t Q' E s := wpAny_mono h hQ fun _ _ x => x
end L2

namespace L2
open PySem PySem.Spec PyProof.Rows
section
variable {X : Cx}

/-! ### names and constants -/
def tVar (i : Nat) : TE := fun σ H Q => ∃ v, σ[i]? = some (some v) ∧ Q v H
def tC (v : V) : TE := fun _ H Q => Q v H
theorem pe_var {i : Nat} {x : Str} {pos : Pos} (hN : X.N[i]? = some x) (hv : Vis X.env.scope x) (hd : (x == ("__debug__" : Str)) = false := by decide) (hcd : (x == ("__classdict__" : Str)) = false := by decide) : PE X (.Name x pos) (tVar i) := by
  intro pins s σ H Q I h
  obtain ⟨v, e, h⟩ := h
  obtain ⟨m, hn, hl⟩ := I.loc
  obtain ⟨u, r, l⟩ := hl i x v hN e hv
  have fin : EP X pins σ Q u s := ⟨v, H, I, r, h⟩
  rcases l with ⟨hk, hm⟩ | ⟨hk, c, hc, hcell⟩
  · exact wpAny_Name (wpAny_loadName_local I.ok.kind hk hn hm fin) hd
  · rcases hk with hk | hk
    · exact wpAny_Name (wpAny_loadName_cell I.ok.kind hk hc hcell fin) hd
    · exact wpAny_Name (wpAny_loadName_free I.ok.kind hk hc hcell fin hcd) hd
theorem pe_int {i j pos} : PE X (.Constant (.int i) j pos) (tC (.int i)) := fun _ _ _ H _ I h => wpAny_Constant_int ⟨.int i, H, I.tok _, ⟨_, rfl⟩, h⟩
theorem pe_bl {b j pos} : PE X (.Constant (.bool b) j pos) (tC (.bl b)) := fun _ _ _ H _ I h => Constant_bool ⟨.bl b, H, I, rfl, h⟩
theorem pe_non {j pos} : PE X (.Constant .none j pos) (tC .non) := fun _ _ _ H _ I h => Constant_none ⟨.non, H, I, rfl, h⟩
theorem pe_str {x j pos} : PE X (.Constant (.str x) j pos) (tC (.str x)) := fun _ _ _ H _ I h => Calls.Constant_str ⟨.str x, H, I.tok _, ⟨_, rfl⟩, h⟩

/-- a global name of the def -/
def Gl (X : Cx) (x : Str) : Prop := X.env.kindOf x = some .globalImplicit
theorem ld_glob {E : Value → Shared → Prop} {pins : List (Addr × Obj)} {s : Shared} {σ : St} {H : Hp} {x : Str} {u : Value} {pos : Pos} {Q : Value → Shared → Prop} (I : Inv X pins σ H s) (hg : Gl X x) (hm : X.mg x = some u) (h : Q u s)
    (hd : (x == ("__debug__" : Str)) = false := by decide) : wpAny (model X.prog X.w) X.A (eval (.Name x pos) X.env) Q E s :=
  Calls.Name_function_global I.ok.kind hg (Calls.loadGlobal_global (by rw [I.ok.glob]; exact I.mod.glob.keeps I.bk) hm h) hd
theorem ld_blt {E : Value → Shared → Prop} {pins : List (Addr × Obj)} {s : Shared} {σ : St} {H : Hp} {x : Str} {u : Value} {pos : Pos} {Q : Value → Shared → Prop} (I : Inv X pins σ H s) (hg : Gl X x) (hm : X.mg x = none) (hv : bootBuiltins x = some u) (h : Q u s)
    (hn : x ≠ "__name__" := by decide) (hd : (x == ("__debug__" : Str)) = false := by decide) : wpAny (model X.prog X.w) X.A (eval (.Name x pos) X.env) Q E s := by
  obtain ⟨mb, h1, h2⟩ := I.mod.blt
  exact Calls.Name_function_global I.ok.kind hg (Calls.loadGlobal_builtin (by rw [I.ok.glob]; exact I.mod.glob.keeps I.bk) hm (by rw [I.ok.blt]; exact h1.keeps I.bk) ((h2 x hn).trans hv) h) hd
theorem pe_bltn {x : Str} {v : V} {u : Value} {pos : Pos} (hg : Gl X x) (hm : X.mg x = none) (hv : bootBuiltins x = some u) (r : RelV v u) (hn : x ≠ "__name__" := by decide) (hd : (x == ("__debug__" : Str)) = false := by decide) : PE X (.Name x pos) (tC v) :=
  fun _ _ _ H _ I h => ld_blt I hg hm hv ⟨v, H, I, r, h⟩ hn hd

/-! ### arithmetic -/
variable {a b : Expr} {ta tb : TE} {pos : Pos}
/-! ### comparisons -/
def PC (X : Cx) (op : CmpOp) (a b : Expr) (t : TE) : Prop :=
  ∀ (pins : List (Addr × Obj)) (s : Shared) (σ : St) (H : Hp) (Q : VK), Inv X pins σ H s → t σ H Q →
    wpAny (model X.prog X.w) X.A (eval a X.env) (fun v s₁ => wpAny (model X.prog X.w) X.A (eval b X.env) (fun u s₂ => wpAny (model X.prog X.w) X.A (compareOp op v u) (EP X pins σ Q) X.xe s₂) X.xe s₁) X.xe s
theorem nobehind (b : Expr) {op : CmpOp} (h : op ≠ .In) (h2 : op ≠ .NotIn) : behindInMarks op b = false := by
  have e1 : (op == CmpOp.In) = false := by cases op <;> first | rfl | exact absurd rfl h
  have e2 : (op == CmpOp.NotIn) = false := by cases op <;> first | rfl | exact absurd rfl h2
  cases b <;> simp [behindInMarks, e1, e2]
/-- a comparison as a value, as a test -/
def tB (t : TE) : TT := fun σ H Q => t σ H fun x H1 => ∃ c, x = .bl c ∧ Q c H1
theorem pt_cmp {op : CmpOp} {t : TE} (h : PC X op a b t) (h1 : behindInMarks op b = false := by first | exact nobehind _ (by decide) (by decide) | rfl) : PT X (.Compare a [op] [b] pos) (tB t) := by
  intro pins s σ H Q I hw
  refine wpAny_isTrue_Compare1 (thn (h pins s σ H _ I hw) fun v s1 h1 => thn h1 fun u s2 h2 => thn h2 fun c s3 ⟨x, H1, I1, r1, q1⟩ => ?_) h1
  obtain ⟨d, rfl, q⟩ := q1
  cases r1
  exact wpAny_truthy_bool ⟨H1, I1, q⟩
/-- an expression whose value is a bool, as a test -/
theorem pt_val {e : Expr} {t : TE} (h : PE X e t) (he : ∀ whole, isTrue e X.env whole = (do let v ← whole; standAt e.pos; holding [v] (truthy v)) := by intro _; rfl) : PT X e (tB t) := by
  intro pins s σ H Q I hw
  refine isTrue_plain (thn (h pins s σ H _ I hw) fun v s1 ⟨x, H1, I1, r1, q1⟩ => ?_) (he _)
  obtain ⟨d, rfl, q⟩ := q1
  cases r1
  exact wpAny_truthy_bool ⟨H1, I1, q⟩

/-! ### and, or, not -/
variable {tA tB' : TT} {rest : List Expr}
def tAnd (t u : TT) : TT := fun σ H Q => t σ H fun c H1 => if c = true then u σ H1 Q else Q false H1
def tOr (t u : TT) : TT := fun σ H Q => t σ H fun c H1 => if c = true then Q true H1 else u σ H1 Q
def tNot (t : TT) : TT := fun σ H Q => t σ H fun c H1 => Q (!c) H1
theorem pw_and1 (ha : PT X a tA) : PW X (.BoolOp .And [a] pos) tA := by
  intro wh pins s σ H Q I h
  refine isTrue_and (thn (ha pins s σ H Q I h) fun c s1 e => ?_)
  cases c with
  | true => exact isTrue_and_nil e
  | false => exact e
theorem pw_or1 (ha : PT X a tA) : PW X (.BoolOp .Or [a] pos) tA := by
  intro wh pins s σ H Q I h
  refine isTrue_or (thn (ha pins s σ H Q I h) fun c s1 e => ?_)
  cases c with
  | false => exact isTrue_or_nil e
  | true => exact e
theorem pw_and (ha : PT X a tA) (hb : PW X (.BoolOp .And (b :: rest) pos) tB') : PW X (.BoolOp .And (a :: b :: rest) pos) (tAnd tA tB') := by
  intro wh pins s σ H Q I h
  refine isTrue_and (thn (ha pins s σ H _ I h) fun c s1 ⟨H1, I1, q1⟩ => ?_)
  cases c with
  | true => exact hb wh pins s1 σ H1 Q I1 q1
  | false => exact ⟨H1, I1, q1⟩
theorem pw_or (ha : PT X a tA) (hb : PW X (.BoolOp .Or (b :: rest) pos) tB') : PW X (.BoolOp .Or (a :: b :: rest) pos) (tOr tA tB') := by
  intro wh pins s σ H Q I h
  refine isTrue_or (thn (ha pins s σ H _ I h) fun c s1 ⟨H1, I1, q1⟩ => ?_)
  cases c with
  | true => exact ⟨H1, I1, q1⟩
  | false => exact hb wh pins s1 σ H1 Q I1 q1
theorem pt_not (ha : PT X a tA) : PT X (.UnaryOp .Not a pos) (tNot tA) := by
  intro pins s σ H Q I h
  exact isTrue_not (ha pins s σ H (fun c H1 => Q (!c) H1) I h)
/-- .. as values (bools) -/
def tAndV (ta tb : TE) : TE := fun σ H Q => ta σ H fun x H1 => ∃ c, x = .bl c ∧ if c = true then tb σ H1 Q else Q (.bl false) H1
def tOrV (ta tb : TE) : TE := fun σ H Q => ta σ H fun x H1 => ∃ c, x = .bl c ∧ if c = true then Q (.bl true) H1 else tb σ H1 Q
def tNotV (ta : TE) : TE := fun σ H Q => ta σ H fun x H1 => ∃ c, x = .bl c ∧ Q (.bl (!c)) H1
theorem pe_one {op} {t : TE} (h : PE X a t) : PE X (.BoolOp op [a] pos) t := fun pins s σ H Q I hw => BoolOp_one (h pins s σ H Q I hw)
theorem pe_and (ha : PE X a ta) (hb : PE X (.BoolOp .And (b :: rest) pos) tb) : PE X (.BoolOp .And (a :: b :: rest) pos) (tAndV ta tb) := by
  intro pins s σ H Q I h
  refine BoolOp_and (thn (ha pins s σ H _ I h) fun v s1 ⟨x, H1, I1, r1, q1⟩ => ?_)
  obtain ⟨c, rfl, q1⟩ := q1
  cases r1
  refine wpAny_truthy_bool ?_
  cases c with
  | true => exact hb pins s1 σ H1 Q I1 q1
  | false => exact ⟨.bl false, H1, I1, rfl, q1⟩
theorem pe_or (ha : PE X a ta) (hb : PE X (.BoolOp .Or (b :: rest) pos) tb) : PE X (.BoolOp .Or (a :: b :: rest) pos) (tOrV ta tb) := by
  intro pins s σ H Q I h
  refine BoolOp_or (thn (ha pins s σ H _ I h) fun v s1 ⟨x, H1, I1, r1, q1⟩ => ?_)
  obtain ⟨c, rfl, q1⟩ := q1
  cases r1
  refine wpAny_truthy_bool ?_
  cases c with
  | false => exact hb pins s1 σ H1 Q I1 q1
  | true => exact ⟨.bl true, H1, I1, rfl, q1⟩
theorem pe_not (ha : PE X a ta) : PE X (.UnaryOp .Not a pos) (tNotV ta) := by
  intro pins s σ H Q I h
  refine UnaryOp_ (thn (ha pins s σ H _ I h) fun v s1 ⟨x, H1, I1, r1, q1⟩ => ?_)
  obtain ⟨c, rfl, q1⟩ := q1
  cases r1
  exact not_of (wpAny_truthy_bool ⟨.bl (!c), H1, I1, rfl, q1⟩)
/-- a if t else b -/
def tIf (t : TT) (ta tb : TE) : TE := fun σ H Q => t σ H fun c H1 => if c = true then ta σ H1 Q else tb σ H1 Q
theorem pe_ifExp {c : Expr} (hc : PT X c tA) (ha : PE X a ta) (hb : PE X b tb) : PE X (.IfExp c a b pos) (tIf tA ta tb) := by
  intro pins s σ H Q I h
  refine wpAny_IfExp (thn (hc pins s σ H _ I h) fun d s1 ⟨H1, I1, q1⟩ => ?_)
  cases d with
  | true => exact ha pins s1 σ H1 Q I1 q1
  | false => exact hb pins s1 σ H1 Q I1 q1
end
end L2

namespace L2
open PySem PySem.Spec PyProof.Rows

/-! ### a list, a tuple that is read: tracked, frozen, or an object of the module -/
def SqL (K : PySem.W.Frag) (H : Hp) (a : Addr) (xs : List V) : Prop :=
  Rd H a (.lst xs) ∨
    ∃ (o : Obj) (its : Array Value) (n : Nat), K.lookup a = some o ∧ o.cls = .type "list" ∧ o.dict = none ∧ o.data = .seq its n ∧ its.size ≤ sizeLine ∧ Vals xs its.toList
def SqT (K : PySem.W.Frag) (H : Hp) (a : Addr) (xs : List V) : Prop :=
  Rd H a (.tup xs) ∨
    ∃ (o : Obj) (its : Array Value) (n : Nat), K.lookup a = some o ∧ o.cls = .type "tuple" ∧ o.data = .seq its n ∧ its.size ≤ sizeLine ∧ Vals xs its.toList
def absV : Value → Option V
  | .none => some .non
  | .bool b => some (.bl b)
  | .int i _ => some (.int i)
  | .str x _ => some (.str x)
  | .bytes b _ => some (.byt b)
  | .float b _ => some (.flt b)
  | .ref a => some (.ref a)
  | .type n => some (.ty n)
  | _ => none
theorem RelV.abs {x : V} {u : Value} (r : RelV x u) : absV u = some x := by
  cases x with
  | non => cases r; rfl
  | bl _ => cases r; rfl
  | int _ => obtain ⟨t, rfl⟩ := r; rfl
  | str _ => obtain ⟨t, rfl⟩ := r; rfl
  | byt _ => obtain ⟨t, rfl⟩ := r; rfl
  | flt _ => obtain ⟨t, rfl⟩ := r; rfl
  | ref _ => cases r; rfl
  | ty _ => cases r; rfl
theorem RelV.inj {x y : V} {u : Value} (r : RelV x u) (q : RelV y u) : x = y := Option.some.inj (r.abs.symm.trans q.abs)
theorem Vals.inj {xs ys : List V} {us : List Value} (h : Vals xs us) (h' : Vals ys us) : xs = ys := by
  induction h generalizing ys with
  | nil => cases h'; rfl
  | cons r t ih => cases h' with
    | cons r' t' => rw [r.inj r', ih t']
section
variable {X : Cx} {pins : List (Addr × Obj)} {σ : St} {H : Hp} {s : Shared} {a : Addr} {xs ys : List V}
theorem SqL.of {K : PySem.W.Frag} (h : H a = some (.lst xs)) : SqL K H a xs := .inl (.inl h)
theorem SqT.of {K : PySem.W.Frag} (h : H a = some (.tup xs)) : SqT K H a xs := .inl (.inl h)
theorem Inv.list (I : Inv X pins σ H s) (h : SqL X.K H a xs) : ∃ its : List Value, Vals xs its ∧ PlainL s.heap a its.toArray ∧ xs.length ≤ sizeLine := by
  rcases h with h | ⟨o, its, n, hk, hc, hd, hs, hz, r⟩
  · obtain ⟨z, its, n, r, e⟩ := h.ok I.hok
    exact ⟨its, r, ⟨_, n, e, rfl, rfl, rfl⟩, z⟩
  · refine ⟨its.toList, r, ⟨o, n, I.kIn a o hk, hc, hd, by simpa using hs⟩, ?_⟩
    have e := r.length
    simp only [Array.length_toList] at e
    omega
theorem Inv.tuple (I : Inv X pins σ H s) (h : SqT X.K H a xs) : ∃ its : List Value, Vals xs its ∧ IsTup s.heap a its.toArray ∧ xs.length ≤ sizeLine := by
  rcases h with h | ⟨o, its, n, hk, hc, hs, hz, r⟩
  · obtain ⟨z, its, r, p⟩ := h.ok I.hok
    exact ⟨its, r, p, z⟩
  · refine ⟨its.toList, r, ⟨o, I.kIn a o hk, hc, n, by simpa using hs⟩, ?_⟩
    have e := r.length
    simp only [Array.length_toList] at e
    omega
theorem Inv.list_inj (I : Inv X pins σ H s) (h : SqL X.K H a xs) (h' : SqL X.K H a ys) : xs = ys := by
  obtain ⟨its, r, ⟨o, n, e, _, _, d⟩, _⟩ := I.list h
  obtain ⟨its', r', ⟨o', n', e', _, _, d'⟩, _⟩ := I.list h'
  rw [e] at e'; cases e'
  rw [d] at d'
  injection d' with d1 _
  have : its = its' := by simpa using congrArg Array.toList d1
  subst this
  exact r.inj r'
theorem Inv.tuple_inj (I : Inv X pins σ H s) (h : SqT X.K H a xs) (h' : SqT X.K H a ys) : xs = ys := by
  obtain ⟨its, r, ⟨o, e, _, n, d⟩, _⟩ := I.tuple h
  obtain ⟨its', r', ⟨o', e', _, n', d'⟩, _⟩ := I.tuple h'
  rw [e] at e'; cases e'
  rw [d] at d'
  injection d' with d1 _
  have : its = its' := by simpa using congrArg Array.toList d1
  subst this
  exact r.inj r'
end

/-! ### another wish about exceptions -/
abbrev Cx.wish (X : Cx) (E : Value → Shared → Prop) : Cx := { X with xe := E }
/-- no exception leaves -/
abbrev Cx.nox (X : Cx) : Cx := X.wish fun _ _ => False
theorem Cx.Ok.wish {X : Cx} (ok : X.Ok) (E : Value → Shared → Prop) : (X.wish E).Ok :=
  ⟨ok.mod, ok.kind, ok.glob, ok.blt, ok.above, ok.inj, ok.has, ok.cab, ok.hd, ok.frames, ok.stk, ok.exf, ok.bs, ok.bsz, ok.noex, ok.exfs, ok.funs, ok.frf⟩
theorem Cx.Ok.unwish {X : Cx} {E : Value → Shared → Prop} (ok : (X.wish E).Ok) : X.Ok :=
  ⟨ok.mod, ok.kind, ok.glob, ok.blt, ok.above, ok.inj, ok.has, ok.cab, ok.hd, ok.frames, ok.stk, ok.exf, ok.bs, ok.bsz, ok.noex, ok.exfs, ok.funs, ok.frf⟩
section
variable {X : Cx} {pins : List (Addr × Obj)} {σ : St} {H : Hp} {s : Shared} {E : Value → Shared → Prop}
theorem Inv.wish (I : Inv X pins σ H s) (E : Value → Shared → Prop) : Inv (X.wish E) pins σ H s := ⟨I.ok.wish E, I.os, I.bare, I.base, I.loc, I.cell, I.free, I.freeC, I.pin, I.hok, I.len⟩
theorem Inv.unwish (I : Inv (X.wish E) pins σ H s) : Inv X pins σ H s := ⟨I.ok.unwish, I.os, I.bare, I.base, I.loc, I.cell, I.free, I.freeC, I.pin, I.hok, I.len⟩
theorem SP.unwish {D : Ends} {f : Flow} {s' : Shared} (h : SP (X.wish E) pins D f s') : SP X pins D f s' := by
  cases f with
  | next => obtain ⟨σ', H', I, q⟩ := h; exact ⟨σ', H', I.unwish, q⟩
  | brk => obtain ⟨σ', H', I, q⟩ := h; exact ⟨σ', H', I.unwish, q⟩
  | cont => obtain ⟨σ', H', I, q⟩ := h; exact ⟨σ', H', I.unwish, q⟩
  | ret u => obtain ⟨v, σ', H', I, r, q⟩ := h; exact ⟨v, σ', H', I.unwish, r, q⟩
theorem PSs.nox {st : List Stmt} {t : TS} (h : PSs X.nox st t) : PSs X st t := fun pins s σ H D I hw =>
  wpAny_mono (h pins s σ H D (I.wish _) hw) (fun _ _ q => q.unwish) fun _ _ z => False.elim z
end

/-! ### blocks and small statements -/
section
variable {X : Cx} {st : Stmt} {rest : List Stmt} {t u : TS} {e : Expr} {te : TE} {pos : Pos}
def tNext : TS := fun D σ H => D.nx σ H
def tSeq (t u : TS) : TS := fun D σ H => t { D with nx := u D } σ H
theorem pss_nil : PSs X [] tNext := fun _ _ σ H _ I h => wpAny_execs_nil ⟨σ, H, I, h⟩
theorem pss_cons (h1 : PS X st t) (h2 : PSs X rest u) : PSs X (st :: rest) (tSeq t u) := by
  intro pins s σ H D I h
  refine wpAny_execs_cons (thn (h1 pins s σ H { D with nx := u D } I h) fun f s1 q => ?_)
  cases f with
  | next =>
    obtain ⟨σ', H', I', q⟩ := q
    exact h2 pins s1 σ' H' D I' q
  | ret v => exact q
  | brk => exact q
  | cont => exact q
theorem pss_one (h1 : PS X st t) : PSs X [st] t := by
  intro pins s σ H D I h
  refine wpAny_execs_cons (thn (h1 pins s σ H D I h) fun f s1 q => ?_)
  cases f with
  | next => exact wpAny_execs_nil q
  | ret v => exact q
  | brk => exact q
  | cont => exact q
/-- in a def's body nothing is shown -/
theorem Inv.quiet {pins : List (Addr × Obj)} {σ : St} {H : Hp} {s : Shared} (I : Inv X pins σ H s) : interactive X.env = false := by simp [interactive, I.ok.kind]
/-- an expression whose value is dropped -/
def tDrop (te : TE) : TS := fun D σ H => te σ H fun _ H1 => D.nx σ H1
theorem ps_expr (he : PE X e te) (hs : swapsWith e none pos.line X.env = pure false := by rfl) : PS X (.Expr e pos) (tDrop te) := by
  intro pins s σ H D I h
  exact wpAny_Expr_any (thn (he pins s σ H _ I h) fun v s1 ⟨x, H1, I1, r1, q1⟩ => ⟨σ, H1, I1, q1⟩) I.quiet hs
def tRet (te : TE) : TS := fun D σ H => te σ H D.rt
theorem ps_ret (he : PE X e te) : PS X (.Return (some e) pos) (tRet te) := by
  intro pins s σ H D I h
  exact wpAny_Return_some (thn (he pins s σ H _ I h) fun v s1 ⟨x, H1, I1, r1, q1⟩ => ⟨x, σ, H1, I1, r1, q1⟩)
def tIfS (c : TT) (t u : TS) : TS := fun D σ H => c σ H fun b H1 => if b = true then t D σ H1 else u D σ H1
theorem ps_if {c : Expr} {a b : List Stmt} {tc : TT} (hc : PT X c tc) (ha : PSs X a t) (hb : PSs X b u) : PS X (.If c a b pos) (tIfS tc t u) := by
  intro pins s σ H D I h
  refine wpAny_If (thn (hc pins s σ H _ I h) fun d s1 ⟨H1, I1, q1⟩ => ?_)
  cases d with
  | true => exact ha pins s1 σ H1 D I1 q1
  | false => exact hb pins s1 σ H1 D I1 q1
/-- code that the proof never comes to -/
def tNever : TS := fun _ _ _ => False
theorem ps_never : PS X st tNever := fun _ _ _ _ _ _ h => h.elim
end

/-! ### targets -/
abbrev TG := V → St → Hp → (St → Hp → Prop) → Prop
abbrev TGs := List V → St → Hp → (St → Hp → Prop) → Prop
def PG (X : Cx) (target : Expr) (t : TG) : Prop :=
  ∀ (pins : List (Addr × Obj)) (s : Shared) (σ : St) (H : Hp) (v : V) (u : Value) (Q : St → Hp → Prop), Inv X pins σ H s → RelV v u → t v σ H Q →
    wpAny (model X.prog X.w) X.A (assign target X.env u) (fun _ s' => ∃ σ' H', Inv X pins σ' H' s' ∧ Q σ' H') X.xe s
/-- several targets, one after another -/
def PGs (X : Cx) (ts : List Expr) (t : TGs) : Prop :=
  ∀ (pins : List (Addr × Obj)) (s : Shared) (σ : St) (H : Hp) (vs : List V) (us : List Value) (Q : St → Hp → Prop), Inv X pins σ H s → Vals vs us → t vs σ H Q →
    wpAny (model X.prog X.w) X.A (assignInOrder ((assignEach ts X.env).map (·.2)) us) (fun _ s' => ∃ σ' H', Inv X pins σ' H' s' ∧ Q σ' H') X.xe s
/-- o[i] = v, by values -/
abbrev TSet := V → V → V → Hp → (Hp → Prop) → Prop
def PSet (X : Cx) (t : TSet) : Prop :=
  ∀ (pins : List (Addr × Obj)) (s : Shared) (σ : St) (H : Hp) (o i v : V) (ov iv u : Value) (Q : Hp → Prop), Inv X pins σ H s → RelV o ov → RelV i iv → RelV v u → t o i v H Q →
    wpAny (model X.prog X.w) X.A (setItem ov iv u) (fun _ s' => ∃ H', Inv X pins σ H' s' ∧ Q H') X.xe s
section
variable {X : Cx} {pos : Pos}
def gName (i : Nat) : TG := fun v σ H Q => Q (σ.set i (some v)) H
theorem pg_name {i : Nat} {x : Str} (hN : X.N.Nodup) (hi : X.N[i]? = some x) (hx : Loc X.env.scope x) (hf : X.fn x = true ∨ X.env.scope.names.lookup x = some .local := by first | exact .inl rfl | exact .inr rfl | assumption) : PG X (.Name x pos) (gName i) := by
  intro pins s σ H v u Q I r h
  exact wpAny_assign_Name (store_ok I hN hi hx r (fun s' I' => ⟨_, H, I', h⟩) hf)
def gNil : TGs := fun vs σ H Q => vs = [] ∧ Q σ H
def gCons (t : TG) (u : TGs) : TGs := fun vs σ H Q => ∃ v r, vs = v :: r ∧ t v σ H fun σ' H' => u r σ' H' Q
theorem pgs_nil : PGs X [] gNil := by
  intro pins s σ H vs us Q I r h
  obtain ⟨e, h⟩ := h
  subst e
  cases r
  exact assignInOrder_nil ⟨σ, H, I, h⟩
theorem pgs_cons {e : Expr} {es : List Expr} {t : TG} {u : TGs} (h1 : PG X e t) (h2 : PGs X es u)
    (hs : (assignEach (e :: es) X.env).map (·.2) = assign e X.env :: (assignEach es X.env).map (·.2) := by rfl) : PGs X (e :: es) (gCons t u) := by
  intro pins s σ H vs us Q I r h
  obtain ⟨v, vr, e1, h⟩ := h
  subst e1
  cases r with
  | cons r rr =>
    rw [hs]
    refine assignInOrder_cons (thn (h1 pins s σ H _ _ _ I r h) fun _ s1 ⟨σ1, H1, I1, q1⟩ => ?_)
    exact h2 pins s1 σ1 H1 _ _ Q I1 rr q1
/-- (a, b, ..) = a tuple of that length -/
def gTup (K : PySem.W.Frag) (n : Nat) (t : TGs) : TG := fun v σ H Q => ∃ a xs, v = .ref a ∧ SqT K H a xs ∧ xs.length = n ∧ t xs σ H Q
theorem pg_tup {es : List Expr} {k : Nat} {t : TGs} {n : Nat} (hc : X.calm = true) (h : PGs X es t)
    (hn : (assignEach es X.env).length = n := by rfl) (hst : (assignEach es X.env).findIdx? (·.1) = none := by rfl) : PG X (.Tuple es k pos) (gTup X.K n t) := by
  intro pins s σ H v u Q I r hw
  obtain ⟨a, xs, e1, hq, hl, hw⟩ := hw
  subst e1
  cases r
  obtain ⟨its, rv, ht, hz⟩ := I.tuple hq
  refine assign_Tuple_tuple (I.ok.hd hc) ht (by simp [hn, ← hl, rv.length]) hst fun h' hx => ?_
  have I1 : Inv X pins σ H { s with heap := h' } := I.kept (t' := s.toks) fun b o e => hx b o (Nat.ne_of_lt (Heap.lt_size e)) e
  exact h pins _ σ H xs _ Q I1 (by simpa using rv) hw
/-- o[i] = .. -/
def gSub (to ti : TE) (t : TSet) : TG := fun v σ H Q => to σ H fun o H1 => ti σ H1 fun i H2 => t o i v H2 fun H3 => Q σ H3
theorem pg_sub {o i : Expr} {to ti : TE} {t : TSet} (ho : PE X o to) (hi : PE X i ti) (hs : PSet X t)
    (ha : ∀ v, assign (.Subscript o i pos) X.env v = (do
      let ov ← holding [v] (eval o X.env)
      let iv ← holding [v, ov] (eval i X.env)
      standAt pos
      holding [v, ov, iv] (setItem ov iv v)
      release [v, ov, iv] []) := by intro _; rfl) : PG X (.Subscript o i pos) (gSub to ti t) := by
  intro pins s σ H v u Q I r h
  rw [ha]
  refine wpAny_bind (wpAny_holding (thn (ho pins s σ H _ I h) fun ov s1 ⟨x, H1, I1, r1, q1⟩ => ?_))
  refine wpAny_bind (wpAny_holding (thn (hi pins s1 σ H1 _ I1 q1) fun iv s2 ⟨y, H2, I2, r2, q2⟩ => ?_))
  refine wpAny_bind (wpAny_standAt (wpAny_bind (wpAny_holding (thn (hs pins s2 σ H2 x y v ov iv u _ I2 r1 r2 r q2) fun _ s3 ⟨H3, I3, q3⟩ => ?_))))
  exact wpAny_release ⟨σ, H3, I3, q3⟩
/-- target = value -/
def tAsg (te : TE) (g : TG) : TS := fun D σ H => te σ H fun x H1 => g x σ H1 D.nx
theorem ps_asg {tg e : Expr} {te : TE} {g : TG} (he : PE X e te) (hg : PG X tg g) (hs : swapsWithSole [tg] e pos.line X.env = pure false := by rfl) (hw : swappedStores [tg] e X.env = pure none := by rfl)
    (h1 : (assignEach [tg] X.env).map (·.2) = [assign tg X.env] := by rfl) : PS X (.Assign [tg] e pos) (tAsg te g) := by
  intro pins s σ H D I h
  refine wpAny_Assign_stores (thn (he pins s σ H _ I h) fun v s1 ⟨x, H1, I1, r1, q1⟩ => ?_) hs hw
  rw [h1]
  exact thn (hg pins s1 σ H1 x v _ I1 r1 q1) fun _ s2 q => q
/-- name = value -/
theorem ps_set {i : Nat} {x : Str} {e : Expr} {te : TE} {pos' : Pos} (hN : X.N.Nodup) (hi : X.N[i]? = some x) (hx : Loc X.env.scope x) (he : PE X e te) (hs : swapsWith e (some (.Name x pos')) pos.line X.env = pure false := by rfl) (hf : X.fn x = true ∨ X.env.scope.names.lookup x = some .local := by first | exact .inl rfl | exact .inr rfl | assumption) :
    PS X (.Assign [.Name x pos'] e pos) (tAsg te (gName i)) := by
  intro pins s σ H D I h
  refine wpAny_Assign_Name (thn (he pins s σ H _ I h) fun v s1 ⟨y, H1, I1, r1, q1⟩ => ?_) hs
  exact store_ok I1 hN hi hx r1 (fun s2 I2 => ⟨_, H1, I2, q1⟩) hf
end

/-! ### while -/
section
variable {X : Cx} {pos : Pos}
/-- the invariant W with its measure -/
def tWhile (c : TT) (tb : TS) : TS := fun D σ H => ∃ W : Nat → St → Hp → Prop, (∃ m, W m σ H) ∧ ∀ m σ H, W m σ H →
  c σ H fun b H1 => if b = true then ∃ N : St → Hp → Prop, (∀ σ' H', N σ' H' → ∃ m', m' < m ∧ W m' σ' H') ∧ tb { D with nx := N, ct := N, bk := D.nx } σ H1 else D.nx σ H1
theorem ps_while {c : Expr} {body : List Stmt} {tc : TT} {tb : TS} (hp : PassesOwn (model X.prog X.w) X.A X.env X.xe) (hc : PT X c tc) (hb : PSs X body tb) : PS X (.While c body [] pos) (tWhile tc tb) := by
  intro pins s σ H D I h
  obtain ⟨W, ⟨m0, w0⟩, turn⟩ := h
  refine wpAny_While (codeAny_whileLoop (fun n s' => ∃ σ' H', Inv X pins σ' H' s' ∧ W n σ' H') ?_ m0 ⟨σ, H, I, w0⟩)
  rintro n s1 ⟨σ1, H1, I1, w1⟩
  refine wpAny_passesOwn hp (thn (hc pins s1 σ1 H1 _ I1 (turn n σ1 H1 w1)) fun b s2 ⟨H2, I2, q2⟩ => ?_)
  cases b with
  | true =>
    obtain ⟨N, hN, q2⟩ := q2
    rw [if_pos rfl]
    refine wpAny_passesOwn hp (thn (hb pins s2 σ1 H2 _ I2 q2) fun f s3 q3 => ?_)
    cases f with
    | next =>
      obtain ⟨σ3, H3, I3, n3⟩ := q3
      obtain ⟨m', hm, w3⟩ := hN σ3 H3 n3
      exact ⟨m', hm, σ3, H3, I3, w3⟩
    | cont =>
      obtain ⟨σ3, H3, I3, n3⟩ := q3
      obtain ⟨m', hm, w3⟩ := hN σ3 H3 n3
      exact ⟨m', hm, σ3, H3, I3, w3⟩
    | brk => exact q3
    | ret v => exact q3
  | false =>
    rw [if_neg Bool.false_ne_true]
    exact wpAny_execs_nil ⟨σ1, H2, I2, q2⟩
end

/-! ### what a loop or a comprehension walks -/
/-- at turn i: it yields x (the heap may grow), or it stops -/
structure It where
  go : Nat → Hp → Prop
  yld : Nat → Hp → V → Hp → Prop
  stop : Nat → Hp → Prop
/-- the iterator's own objects may turn: they are not the frame's, not pinned, younger than the entry (or a comprehension's own) -/
def FpOk (X : Cx) (pins : List (Addr × Obj)) (H : Hp) (b : Addr) : Prop :=
  H b = none ∧ b ≠ X.env.locals ∧ b ∉ X.fs ∧ (b ∈ X.ex ∨ X.s₀.heap.objs.size ≤ b) ∧ (∀ x c, X.env.cells.lookup x = some c → c ≠ b) ∧ ∀ p ∈ X.pn ++ pins, p.1 ≠ b
theorem Inv.fpOk {X : Cx} {pins : List (Addr × Obj)} {σ : St} {H H' : Hp} {s : Shared} {b : Addr} (I : Inv X pins σ H s) (hb : s.heap.objs.size ≤ b) (hn : H' b = none) : FpOk X pins H' b := by
  refine ⟨hn, Nat.ne_of_gt (Nat.lt_of_lt_of_le I.lt hb), I.nofs hb, .inr (Nat.le_trans I.sz hb), fun x c e z => ?_, fun p hp z => ?_⟩
  · obtain ⟨v, q⟩ := I.cell x c e
    exact absurd (Nat.lt_of_lt_of_le q.lt (by rw [z]; exact hb)) (Nat.lt_irrefl _)
  · exact absurd (Nat.lt_of_lt_of_le (Heap.lt_size (I.pin p hp).1) (by rw [z]; exact hb)) (Nat.lt_irrefl _)
structure Turn (P : Program) (w : World) (K : PySem.W.Frag) (tg : Expr) (J : It) (fp : List Addr) (it : Addr) (tn : Nat → Heap → Prop) : Prop where
  mem : it ∈ fp
  obj : ∀ i h, tn i h → ∀ b ∈ fp, ∃ o, h.get? b = some o ∧ ∀ v, o.data ≠ .cell v
  keep : ∀ i h h', tn i h → (∀ b ∈ fp, ∀ o, h.get? b = some o → h'.get? b = some o) → tn i h'
  item : ∀ (X : Cx), X.prog = P → X.w = w → X.K = K → X.calm = true → ∀ (i : Nat) (pins : List (Addr × Obj)) (s : Shared) (σ : St) (H : Hp) (E : Value → Shared → Prop), Inv X pins σ H s → (∀ b ∈ fp, FpOk X pins H b) → tn i s.heap → J.go i H →
    wpAny (model P w) X.A (pyNext (.ref it)) (fun r s1 => ∃ u, r = some u ∧
      wpAny (model P w) X.A (letOwnedTupleGo tg (.ref it) u) (fun _ s2 => ∃ x H', Inv X pins σ H' s2 ∧ RelV x u ∧ J.yld i H x H' ∧ tn (i + 1) s2.heap ∧ ∀ b ∈ fp, H' b = none) E s1) E s
  done : ∀ (X : Cx), X.prog = P → X.w = w → X.K = K → X.calm = true → ∀ (i : Nat) (pins : List (Addr × Obj)) (s : Shared) (σ : St) (H : Hp) (E : Value → Shared → Prop), Inv X pins σ H s → (∀ b ∈ fp, FpOk X pins H b) → tn i s.heap → J.stop i H →
    wpAny (model P w) X.A (pyNext (.ref it)) (fun r s1 => r = none ∧ Inv X pins σ H s1) E s
  self : ∀ (A : Around) (i : Nat) (s : Shared) (Q : Value → Shared → Prop) (E : Value → Shared → Prop), tn i s.heap → Q (.ref it) s → wpAny (model P w) A (pyIter (.ref it)) Q E s
abbrev TI := St → Hp → (It → Hp → Prop) → Prop
/-- an iterator has come -/
def PIE (X : Cx) (pins : List (Addr × Obj)) (σ : St) (tg : Expr) (R : It → Hp → Prop) (itv : Value) (s2 : Shared) : Prop :=
  ∃ (it : Addr) (fp : List Addr) (tn : Nat → Heap → Prop) (J : It) (H' : Hp), itv = .ref it ∧ Inv X pins σ H' s2 ∧ Turn X.prog X.w X.K tg J fp it tn ∧ tn 0 s2.heap ∧ (∀ b ∈ fp, FpOk X pins H' b) ∧ R J H'
def PI (X : Cx) (tg iter : Expr) (wi : TI) : Prop :=
  ∀ (pins : List (Addr × Obj)) (s : Shared) (σ : St) (H : Hp) (R : It → Hp → Prop), Inv X pins σ H s → wi σ H R →
    wpAny (model X.prog X.w) X.A (eval iter X.env) (fun v s1 => wpAny (model X.prog X.w) X.A (pyIter v) (PIE X pins σ tg R) X.xe s1) X.xe s

/-- the step ahead of the store is nothing for an iterator that keeps no tuple -/
theorem go_of {M : Model} {A : Around} {E : Value → Shared → Prop} {s : Shared} {tg : Expr} {it : Addr} {u : Value} {o : Obj} {n : String} {vs : Array Value} {Q : Unit → Shared → Prop} (ho : s.heap.get? it = some o) (hc : o.cls = .type n) (hd : o.data = .fields vs)
    (hn : ["enumerate", "zip", "dict_itemiterator", "dict_reverseitemiterator", "odict_iterator", "itertools.zip_longest", "itertools.pairwise"].contains n = false) (hQ : Q () s) : wpAny M A (letOwnedTupleGo tg (.ref it) u) Q E s := by
  unfold letOwnedTupleGo
  cases tg <;> first
    | exact wpAny_pure hQ
    | (cases u <;> first
        | exact wpAny_pure hQ
        | (refine wpAny_bind (wpAny_load ho ?_)
           rw [hc, hd]
           show wpAny M A (if (["enumerate", "zip", "dict_itemiterator", "dict_reverseitemiterator", "odict_iterator", "itertools.zip_longest", "itertools.pairwise"].contains n && vs[0]? == some (rawInt _)) = true then _ else _) Q E s
           rw [if_neg (by intro h; rw [hn, Bool.false_and] at h; cases h)]
           exact wpAny_pure hQ))

/-- the list at a, as it stands at each turn (a loop may append to it) -/
def Itl (K : PySem.W.Frag) (a : Addr) : It :=
  ⟨fun i H => ∃ xs x, SqL K H a xs ∧ xs[i]? = some x, fun i H x H' => H' = H ∧ ∀ xs, SqL K H a xs → xs[i]? = some x, fun i H => ∃ xs, SqL K H a xs ∧ xs.length ≤ i⟩
def Itt (K : PySem.W.Frag) (a : Addr) : It :=
  ⟨fun i H => ∃ xs x, SqT K H a xs ∧ xs[i]? = some x, fun i H x H' => H' = H ∧ ∀ xs, SqT K H a xs → xs[i]? = some x, fun i H => ∃ xs, SqT K H a xs ∧ xs.length ≤ i⟩
/-- lo, lo + 1, .. (n of them) -/
def Itr (lo : Int) (n : Nat) : It := ⟨fun i _ => i < n, fun i H x H' => H' = H ∧ x = .int (lo + i), fun i _ => n ≤ i⟩
theorem turn_list {P : Program} {w : World} {K : PySem.W.Frag} {tg : Expr} (a it : Addr) : Turn P w K tg (Itl K a) [it] it (fun i h => h.IsListIter it a i) where
  mem := by simp
  obj := fun i h st b hb => by
    have e : b = it := by simpa using hb
    subst e
    obtain ⟨o, e, c, d⟩ := st
    exact ⟨o, e, fun v z => by rw [d] at z; cases z⟩
  keep := fun i h h' st k => st.at fun o e => k it (by simp) o e
  item := by
    intro X hP hw hK hc i pins s σ H E I hf st hg
    subst hP hw hK
    obtain ⟨xs, x, hq, hx⟩ := hg
    obtain ⟨its, rv, p, hz⟩ := I.list hq
    obtain ⟨u, hu, ru⟩ := rv.get hx
    obtain ⟨f0, f1, f2, f3, f4, f5⟩ := hf it (by simp)
    refine wpAny_pyNext_list_item st p.isList (x := u) (by simpa using hu) fun h' st' sb => ?_
    have I1 : Inv X pins σ H { s with heap := h' } := I.turned (t' := s.toks) (fun b o hb e => (sb.2 b hb).trans e) f0 f1 f3 f4 f5
    obtain ⟨o, e, c, d⟩ := id st'
    exact ⟨u, rfl, go_of (s := { s with heap := h' }) e c d (by decide) ⟨x, H, I1, ru, ⟨rfl, fun ys hy => by rw [I.list_inj hy hq]; exact hx⟩, st', fun b hb => (hf b hb).1⟩⟩
  done := by
    intro X hP hw hK hc i pins s σ H E I hf st hg
    subst hP hw hK
    obtain ⟨xs, hq, hx⟩ := hg
    obtain ⟨its, rv, p, hz⟩ := I.list hq
    obtain ⟨f0, f1, f2, f3, f4, f5⟩ := hf it (by simp)
    have hl := rv.length
    exact wpAny_pyNext_list_end (I.ok.hd hc) st p.isList (by simp; omega) fun h' eb => ⟨rfl, I.turned (t' := s.toks) (fun b o hb e => eb b o hb e) f0 f1 f3 f4 f5⟩
  self := fun _ _ _ _ _ st h => wpAny_pyIter_listiter st h
theorem turn_tuple {P : Program} {w : World} {K : PySem.W.Frag} {tg : Expr} (a it : Addr) : Turn P w K tg (Itt K a) [it] it (fun i h => h.IsTupleIter it a i) where
  mem := by simp
  obj := fun i h st b hb => by
    have e : b = it := by simpa using hb
    subst e
    obtain ⟨o, e, c, d⟩ := st
    exact ⟨o, e, fun v z => by rw [d] at z; cases z⟩
  keep := fun i h h' st k => st.at fun o e => k it (by simp) o e
  item := by
    intro X hP hw hK hc i pins s σ H E I hf st hg
    subst hP hw hK
    obtain ⟨xs, x, hq, hx⟩ := hg
    obtain ⟨its, rv, p, hz⟩ := I.tuple hq
    obtain ⟨u, hu, ru⟩ := rv.get hx
    obtain ⟨f0, f1, f2, f3, f4, f5⟩ := hf it (by simp)
    refine wpAny_pyNext_tuple_item st (show s.heap.IsTuple a its.toArray from p) (x := u) (by simpa using hu) fun h' st' sb => ?_
    have I1 : Inv X pins σ H { s with heap := h' } := I.turned (t' := s.toks) (fun b o hb e => (sb.2 b hb).trans e) f0 f1 f3 f4 f5
    obtain ⟨o, e, c, d⟩ := id st'
    exact ⟨u, rfl, go_of (s := { s with heap := h' }) e c d (by decide) ⟨x, H, I1, ru, ⟨rfl, fun ys hy => by rw [I.tuple_inj hy hq]; exact hx⟩, st', fun b hb => (hf b hb).1⟩⟩
  done := by
    intro X hP hw hK hc i pins s σ H E I hf st hg
    subst hP hw hK
    obtain ⟨xs, hq, hx⟩ := hg
    obtain ⟨its, rv, p, hz⟩ := I.tuple hq
    obtain ⟨f0, f1, f2, f3, f4, f5⟩ := hf it (by simp)
    have hl := rv.length
    exact wpAny_pyNext_tuple_end (I.ok.hd hc) st (show s.heap.IsTuple a its.toArray from p) (by simp; omega) fun h' eb => ⟨rfl, I.turned (t' := s.toks) (fun b o hb e => eb b o hb e) f0 f1 f3 f4 f5⟩
  self := fun _ _ _ _ _ st h => wpAny_pyIter_tupleiter st h
theorem turn_range {P : Program} {w : World} {K : PySem.W.Frag} {tg : Expr} (it : Addr) (lo : Int) (n : Nat) : Turn P w K tg (Itr lo n) [it] it (fun i h => IsRangeIter h it (lo + (i : Nat) * 1) ((n : Int) - (i : Nat)) 1) where
  mem := by simp
  obj := fun i h st b hb => by
    have e : b = it := by simpa using hb
    subst e
    exact ⟨_, st, fun v z => by
      have z' : Data.fields _ = Data.cell v := z
      cases z'⟩
  keep := fun i h h' st k => k it (by simp) _ st
  item := by
    intro X hP hw hK hc i pins s σ H E I hf st hg
    subst hP hw hK
    obtain ⟨f0, f1, f2, f3, f4, f5⟩ := hf it (by simp)
    have W := Walks.range (prog := X.prog) (w := X.w) (I.ok.hd hc) it lo 1 n
    refine W.item i s _ _ hg st fun v h' tk hv st' kk => ?_
    obtain ⟨t, rfl⟩ := hv
    have I1 : Inv X pins σ H { s with heap := h', toks := tk } := I.turned (fun b o hb e => kk b o (by simpa using hb) e) f0 f1 f3 f4 f5
    refine ⟨_, rfl, go_of (s := { s with heap := h', toks := tk }) (n := "range_iterator") st' rfl rfl (by decide) ⟨.int (lo + i), H, I1, ⟨t, ?_⟩, ⟨rfl, rfl⟩, st', fun b hb => (hf b hb).1⟩⟩
    rw [Int.mul_one]
  done := by
    intro X hP hw hK hc i pins s σ H E I hf st hg
    subst hP hw hK
    obtain ⟨f0, f1, f2, f3, f4, f5⟩ := hf it (by simp)
    exact wpAny_pyNext_range_end (I.ok.hd hc) st (by have : n ≤ i := hg; omega) fun h' eb => ⟨rfl, I.turned (t' := s.toks) (fun b o hb e => eb b o hb e) f0 f1 f3 f4 f5⟩
  self := fun _ _ _ _ _ st h => wpAny_pyIter_rangeiter st h
end L2

namespace L2
open PySem PySem.Spec PyProof.Rows
section
variable {X : Cx} {tg : Expr}
def iList (K : PySem.W.Frag) (tl : TE) : TI := fun σ H R => tl σ H fun x H1 => ∃ a, x = .ref a ∧ (∃ xs, SqL K H1 a xs) ∧ R (Itl K a) H1
def iTup (K : PySem.W.Frag) (tl : TE) : TI := fun σ H R => tl σ H fun x H1 => ∃ a, x = .ref a ∧ (∃ xs, SqT K H1 a xs) ∧ R (Itt K a) H1
theorem pi_list {l : Expr} {tl : TE} (hl : PE X l tl) : PI X tg l (iList X.K tl) := by
  intro pins s σ H R I h
  refine thn (hl pins s σ H _ I h) fun v s1 ⟨x, H1, I1, r1, q1⟩ => ?_
  obtain ⟨a, e, ⟨xs, hq⟩, q⟩ := q1
  subst e
  cases r1
  obtain ⟨its, rv, p, hz⟩ := I1.list hq
  refine wpAny_pyIter_list p.isList ?_
  refine ⟨s1.heap.objs.size, [s1.heap.objs.size], _, _, H1, rfl, I1.kept (t' := s1.toks) fun b o e => Heap.get?_push_of_some _ e, turn_list a _, ⟨_, Heap.get?_push_size _ rfl, rfl, rfl⟩, fun b hb => ?_, q⟩
  have e : b = s1.heap.objs.size := by simpa using hb
  subst e
  exact I1.fpOk (Nat.le_refl _) (I1.hok.fresh (Nat.le_refl _))
theorem pi_tup {l : Expr} {tl : TE} (hl : PE X l tl) : PI X tg l (iTup X.K tl) := by
  intro pins s σ H R I h
  refine thn (hl pins s σ H _ I h) fun v s1 ⟨x, H1, I1, r1, q1⟩ => ?_
  obtain ⟨a, e, ⟨xs, hq⟩, q⟩ := q1
  subst e
  cases r1
  obtain ⟨its, rv, p, hz⟩ := I1.tuple hq
  refine wpAny_pyIter_tuple (show s1.heap.IsTuple a its.toArray from p) ?_
  refine ⟨s1.heap.objs.size, [s1.heap.objs.size], _, _, H1, rfl, I1.kept (t' := s1.toks) fun b o e => Heap.get?_push_of_some _ e, turn_tuple a _, ⟨_, Heap.get?_push_size _ rfl, rfl, rfl⟩, fun b hb => ?_, q⟩
  have e : b = s1.heap.objs.size := by simpa using hb
  subst e
  exact I1.fpOk (Nat.le_refl _) (I1.hok.fresh (Nat.le_refl _))
/-- a range object just made, walked -/
theorem range_it {pins : List (Addr × Obj)} {σ : St} {H : Hp} {s : Shared} {R : It → Hp → Prop} {E : Value → Shared → Prop} {lo hi : Int} {t u v : Tok} {tk : Nat} (I : Inv X pins σ H s) (h1 : -(2 ^ 62) ≤ lo) (h2 : lo < 2 ^ 62) (h3 : -(2 ^ 62) ≤ hi) (h4 : hi < 2 ^ 62)
    (q : R (Itr lo (hi - lo).toNat) H) : wpAny (model X.prog X.w) X.A (pyIter (.ref s.heap.objs.size)) (PIE X pins σ tg R) E { s with heap := s.heap.push { cls := .type "range", data := .fields #[.int lo t, .int hi u, .int 1 v] }, toks := tk } := by
  refine wpAny_pyIter_range (IsRange.new ..) (small_one h1 h2 h3 h4) ?_
  have I1 : Inv X pins σ H { s with heap := s.heap.push { cls := .type "range", data := .fields #[.int lo t, .int hi u, .int 1 v] }, toks := tk } := I.kept fun b o e => Heap.get?_push_of_some _ e
  refine ⟨(s.heap.push { cls := .type "range", data := .fields #[.int lo t, .int hi u, .int 1 v] }).objs.size, [(s.heap.push { cls := .type "range", data := .fields #[.int lo t, .int hi u, .int 1 v] }).objs.size], _, _, H, rfl,
    I1.kept (t' := tk) fun b o e => Heap.get?_push_of_some _ e, turn_range _ lo (hi - lo).toNat, ?_, fun b hb => ?_, q⟩
  · have e1 : lo + ((0 : Nat) : Int) * 1 = lo := by simp
    have e2 : (((hi - lo).toNat : Nat) : Int) - ((0 : Nat) : Int) = Builtin.Range.rangeSize lo hi 1 := by rw [rangeSize_one]; split <;> omega
    show IsRangeIter _ _ (lo + ((0 : Nat) : Int) * 1) ((((hi - lo).toNat : Nat) : Int) - ((0 : Nat) : Int)) 1
    rw [e1, e2]
    exact Heap.get?_push_size _ rfl
  · have e : b = (s.heap.push { cls := .type "range", data := .fields #[.int lo t, .int hi u, .int 1 v] }).objs.size := by simpa using hb
    subst e
    exact I1.fpOk (Nat.le_refl _) (I1.hok.fresh (Nat.le_refl _))
def iRng1 (ta : TA) : TI := fun σ H R => ta σ H fun vs H1 => ∃ j : Int, vs = [.int j] ∧ -(2 ^ 62) ≤ j ∧ j < 2 ^ 62 ∧ R (Itr 0 j.toNat) H1
theorem pi_range1 {a : Expr} {ta : TA} {p pos : Pos} (hg : Gl X "range") (hm : X.mg "range" = none) (ha : PA X [a] ta) (hs : starEach [a] X.env = [(false, eval a X.env)] := by rfl) : PI X tg (.Call (.Name "range" p) [a] [] pos) (iRng1 ta) := by
  intro pins s σ H R I h
  refine Call_ (ld_blt I hg hm boot_range (PyProof.Rows.callWith_type1 (thn (ha pos pins s σ H _ I h) fun us s1 ⟨vs, H1, I1, r1, q1⟩ => ?_) hs rfl))
  obtain ⟨j, e, q1, q2, q⟩ := q1
  subst e
  cases r1 with
  | cons r rr =>
    cases rr
    obtain ⟨t, rfl⟩ := r
    exact call_range_1 (range_it I1 (by omega) (by omega) q1 q2 (by simpa using q))
/-! ### for -/
/-- W: the invariant by the turn and a measure; N: what the body is to reach -/
def tFor (wi : TI) (g : TG) (tb : TS) : TS := fun D σ H => wi σ H fun J H1 => ∃ W : Nat → Nat → St → Hp → Prop, (∃ m, W 0 m σ H1) ∧ ∀ i m σ H, W i m σ H →
  (J.stop i H ∧ D.nx σ H) ∨ (J.go i H ∧ ∃ N : St → Hp → Prop, (∀ σ' H', N σ' H' → ∃ m', m' < m ∧ W (i + 1) m' σ' H') ∧ ∀ x H', J.yld i H x H' → g x σ H' fun σ2 H2 => tb { D with nx := N, ct := N, bk := D.nx } σ2 H2)
/-- the records at fp as they stand -/
def pinsAt (fp : List Addr) (h : Heap) : List (Addr × Obj) := fp.filterMap fun b => (h.get? b).map fun o => (b, o)
theorem mem_pinsAt {fp : List Addr} {h : Heap} {b : Addr} {o : Obj} (hb : b ∈ fp) (e : h.get? b = some o) : (b, o) ∈ pinsAt fp h := List.mem_filterMap.mpr ⟨b, hb, by rw [e]; rfl⟩
theorem of_pinsAt {fp : List Addr} {h : Heap} {p : Addr × Obj} (hp : p ∈ pinsAt fp h) : p.1 ∈ fp ∧ h.get? p.1 = some p.2 := by
  obtain ⟨b, hb, e⟩ := List.mem_filterMap.mp hp
  cases q : h.get? b with
  | none => rw [q] at e; cases e
  | some o =>
    rw [q] at e
    have e' : (b, o) = p := Option.some.inj e
    subst e'
    exact ⟨hb, q⟩
theorem Inv.pinned {pins : List (Addr × Obj)} {σ : St} {H : Hp} {s : Shared} {fp : List Addr} (I : Inv X pins σ H s) (hf : ∀ b ∈ fp, FpOk X pins H b) (ho : ∀ b ∈ fp, ∃ o, s.heap.get? b = some o ∧ ∀ v, o.data ≠ .cell v) : Inv X (pins ++ pinsAt fp s.heap) σ H s :=
  I.pins_of fun p hp => (List.mem_append.mp hp).elim (fun z => I.pin p (List.mem_append_right _ z)) fun z => by
    obtain ⟨hb, e⟩ := of_pinsAt z
    obtain ⟨f0, f1, f2, _⟩ := hf p.1 hb
    obtain ⟨o, e', d⟩ := ho p.1 hb
    rw [e] at e'; cases e'
    exact ⟨e, f0, f1, f2, d⟩
theorem Inv.unpinned {pins pl : List (Addr × Obj)} {σ : St} {H : Hp} {s : Shared} (I : Inv X (pins ++ pl) σ H s) : Inv X pins σ H s := I.pins_of fun p hp => I.pin p (List.mem_append_right _ (List.mem_append_left _ hp))
theorem ps_for {iter : Expr} {body : List Stmt} {wi : TI} {g : TG} {tb : TS} {pos : Pos} (hp : PassesOwn (model X.prog X.w) X.A X.env X.xe) (hc : X.calm = true) (hi : PI X tg iter wi) (hg : PG X tg g) (hb : PSs X body tb)
    (hs : ∀ x, foldedSetIterable iter X.env x = pure x := by intro _; rfl) : PS X (.For tg iter body [] pos) (tFor wi g tb) := by
  intro pins s σ H D I h
  refine wpAny_For (thn (hi pins s σ H _ I h) fun v s1 h1 => thn h1 fun itv s2 h2 => ?_) hs
  obtain ⟨it, fp, tn, J, H2, e, I2, T, st2, f2, W, ⟨m0, w0⟩, turn⟩ := h2
  subst e
  -- what stays true of the iterator's objects through the loop
  have stat : ∀ {H' : Hp}, (∀ b ∈ fp, H' b = none) → ∀ b ∈ fp, FpOk X pins H' b := fun hn b hb => ⟨hn b hb, (f2 b hb).2⟩
  refine codeAny_forLoop_any (fun n s' => ∃ i σ' H', Inv X pins σ' H' s' ∧ tn i s'.heap ∧ (∀ b ∈ fp, H' b = none) ∧ W i n σ' H') ?_ m0 ⟨0, σ, H2, I2, st2, fun b hb => (f2 b hb).1, w0⟩
  rintro n s3 ⟨i, σ3, H3, I3, st3, fr3, w3⟩
  rcases turn i n σ3 H3 w3 with ⟨stop, qn⟩ | ⟨go, N, hN, step⟩
  · refine wpAny_passesOwn hp (thn (T.done X rfl rfl rfl hc i pins s3 σ3 H3 X.xe I3 (stat fr3) st3 stop) fun r s4 ⟨hr, I4⟩ => ?_)
    subst hr
    exact wpAny_execs_nil ⟨σ3, H3, I4, qn⟩
  · refine wpAny_passesOwn hp (thn (T.item X rfl rfl rfl hc i pins s3 σ3 H3 X.xe I3 (stat fr3) st3 go) fun r s4 ⟨u, hr, h4⟩ => ?_)
    subst hr
    refine wpAny_passesOwn hp (thn h4 fun _ s5 ⟨x, H5, I5, r5, y5, st5, fr5⟩ => ?_)
    have I5' := I5.pinned (stat fr5) (T.obj _ _ st5)
    refine wpAny_passesOwn hp (thn (hg _ s5 σ3 H5 x u _ I5' r5 (step x H5 y5)) fun _ s6 ⟨σ6, H6, I6, q6⟩ => ?_)
    refine wpAny_passesOwn hp (thn (hb _ s6 σ6 H6 _ I6 q6) fun f s7 q7 => ?_)
    have again : ∀ {σ7 : St} {H7 : Hp}, Inv X (pins ++ pinsAt fp s5.heap) σ7 H7 s7 → N σ7 H7 → ∃ m, m < n ∧ ∃ i σ' H', Inv X pins σ' H' s7 ∧ tn i s7.heap ∧ (∀ b ∈ fp, H' b = none) ∧ W i m σ' H' := fun {σ7 H7} I7 n7 => by
      obtain ⟨m', hm, w7⟩ := hN σ7 H7 n7
      refine ⟨m', hm, i + 1, σ7, H7, I7.unpinned, T.keep _ _ _ st5 fun b hb o e => (I7.pin (b, o) (List.mem_append_right _ (List.mem_append_right _ (mem_pinsAt hb e)))).1, fun b hb => ?_, w7⟩
      obtain ⟨o, e, d⟩ := T.obj _ _ st5 b hb
      exact (I7.pin (b, o) (List.mem_append_right _ (List.mem_append_right _ (mem_pinsAt hb e)))).2.1
    cases f with
    | next => obtain ⟨σ7, H7, I7, n7⟩ := q7; exact again I7 n7
    | cont => obtain ⟨σ7, H7, I7, n7⟩ := q7; exact again I7 n7
    | brk => obtain ⟨σ7, H7, I7, q7⟩ := q7; exact ⟨σ7, H7, I7.unpinned, q7⟩
    | ret v => obtain ⟨x7, σ7, H7, I7, r7, q7⟩ := q7; exact ⟨x7, σ7, H7, I7.unpinned, r7, q7⟩
end

/-! ### the forms one uses -/
/-- over a list that the body leaves as it is -/
theorem for_list {K : PySem.W.Frag} {a : Addr} {xs : List V} {g : TG} {tb : TS} {D : Ends} {σ : St} {H : Hp} (Pv : Nat → St → Hp → Prop) (h0 : Pv 0 σ H) (hl : ∀ i σ H, i ≤ xs.length → Pv i σ H → SqL K H a xs)
    (hs : ∀ i x σ H, xs[i]? = some x → Pv i σ H → g x σ H fun σ2 H2 => tb { D with nx := Pv (i + 1), ct := Pv (i + 1), bk := D.nx } σ2 H2) (hd : ∀ σ H, Pv xs.length σ H → D.nx σ H) :
    ∃ W : Nat → Nat → St → Hp → Prop, (∃ m, W 0 m σ H) ∧ ∀ i m σ H, W i m σ H →
      ((Itl K a).stop i H ∧ D.nx σ H) ∨ ((Itl K a).go i H ∧ ∃ N : St → Hp → Prop, (∀ σ' H', N σ' H' → ∃ m', m' < m ∧ W (i + 1) m' σ' H') ∧ ∀ x H', (Itl K a).yld i H x H' → g x σ H' fun σ2 H2 => tb { D with nx := N, ct := N, bk := D.nx } σ2 H2) := by
  refine ⟨fun i m σ H => m = xs.length - i ∧ i ≤ xs.length ∧ Pv i σ H, ⟨xs.length, by simp, Nat.zero_le _, h0⟩, ?_⟩
  rintro i m σ H ⟨rfl, hi, p⟩
  have q := hl i σ H hi p
  by_cases hlt : i < xs.length
  · refine .inr ⟨⟨xs, xs[i], q, by simp [hlt]⟩, Pv (i + 1), fun σ' H' p' => ⟨xs.length - (i + 1), by omega, rfl, hlt, p'⟩, fun x H' y => ?_⟩
    obtain ⟨e, y⟩ := y
    subst e
    exact hs i x σ _ (y xs q) p
  · have e : i = xs.length := by omega
    subst e
    exact .inl ⟨⟨xs, q, Nat.le_refl _⟩, hd σ H p⟩
theorem for_range {lo : Int} {n : Nat} {g : TG} {tb : TS} {D : Ends} {σ : St} {H : Hp} (Pv : Nat → St → Hp → Prop) (h0 : Pv 0 σ H)
    (hs : ∀ i σ H, i < n → Pv i σ H → g (.int (lo + i)) σ H fun σ2 H2 => tb { D with nx := Pv (i + 1), ct := Pv (i + 1), bk := D.nx } σ2 H2) (hd : ∀ σ H, Pv n σ H → D.nx σ H) :
    ∃ W : Nat → Nat → St → Hp → Prop, (∃ m, W 0 m σ H) ∧ ∀ i m σ H, W i m σ H →
      ((Itr lo n).stop i H ∧ D.nx σ H) ∨ ((Itr lo n).go i H ∧ ∃ N : St → Hp → Prop, (∀ σ' H', N σ' H' → ∃ m', m' < m ∧ W (i + 1) m' σ' H') ∧ ∀ x H', (Itr lo n).yld i H x H' → g x σ H' fun σ2 H2 => tb { D with nx := N, ct := N, bk := D.nx } σ2 H2) := by
  refine ⟨fun i m σ H => m = n - i ∧ i ≤ n ∧ Pv i σ H, ⟨n, by simp, Nat.zero_le _, h0⟩, ?_⟩
  rintro i m σ H ⟨rfl, hi, p⟩
  by_cases hlt : i < n
  · refine .inr ⟨hlt, Pv (i + 1), fun σ' H' p' => ⟨n - (i + 1), by omega, rfl, hlt, p'⟩, fun x H' y => ?_⟩
    obtain ⟨e, y⟩ := y
    subst e y
    exact hs i σ _ hlt p
  · have e : i = n := by omega
    subst e
    exact .inl ⟨Nat.le_refl _, hd σ H p⟩
end L2

namespace L2
open PySem PySem.Spec PyProof.Rows

abbrev R2 := V → V → Hp → VK → Prop
/-- a two-place operation on values: f is binaryOp op, inplaceOp op or compareOp op -/
def OpR (X : Cx) (f : Value → Value → Sem Value) (r : R2) : Prop :=
  ∀ (pins : List (Addr × Obj)) (s : Shared) (σ : St) (H : Hp) (x y : V) (v u : Value) (Q : VK), Inv X pins σ H s → RelV x v → RelV y u → r x y H Q →
    wpAny (model X.prog X.w) X.A (f v u) (EP X pins σ Q) X.xe s
/-- a one-place operation -/
def UnR (X : Cx) (f : Value → Sem Value) (r : V → Hp → VK → Prop) : Prop :=
  ∀ (pins : List (Addr × Obj)) (s : Shared) (σ : St) (H : Hp) (x : V) (v : Value) (Q : VK), Inv X pins σ H s → RelV x v → r x H Q →
    wpAny (model X.prog X.w) X.A (f v) (EP X pins σ Q) X.xe s
/-- a call of a value that is known (a builtin, a type) with values -/
def CallR (X : Cx) (f : Value) (r : List V → Hp → VK → Prop) : Prop :=
  ∀ (pins : List (Addr × Obj)) (s : Shared) (σ : St) (H : Hp) (xs : List V) (us : List Value) (Q : VK), Inv X pins σ H s → Vals xs us → r xs H Q →
    wpAny (model X.prog X.w) X.A (call f us) (EP X pins σ Q) X.xe s
def tOp (r : R2) (ta tb : TE) : TE := fun σ H Q => ta σ H fun x H1 => tb σ H1 fun y H2 => r x y H2 Q
def tUn (r : V → Hp → VK → Prop) (ta : TE) : TE := fun σ H Q => ta σ H fun x H1 => r x H1 Q
/-- ints in, under C, and a value out -/
def rI (C : Int → Int → Prop) (g : Int → Int → V) : R2 := fun x y H Q => ∃ i j, x = .int i ∧ y = .int j ∧ C i j ∧ Q (g i j) H
def rI0 (g : Int → Int → V) : R2 := fun x y H Q => ∃ i j, x = .int i ∧ y = .int j ∧ Q (g i j) H
def rU (g : Int → V) : V → Hp → VK → Prop := fun x H Q => ∃ i, x = .int i ∧ Q (g i) H

section
variable {X : Cx} {a b c : Expr} {ta tb tc : TE} {pos : Pos}

theorem binT (ha : PE X a ta) (hb : PE X b tb) {pins : List (Addr × Obj)} {s : Shared} {σ : St} {H : Hp} {R : V → V → Hp → Prop} (I : Inv X pins σ H s)
    (h : ta σ H fun x H1 => tb σ H1 fun y H2 => R x y H2) {Q : Value → Shared → Prop} {f : Value → Value → Sem Value}
    (hf : ∀ v u s2 x y H2, Inv X pins σ H2 s2 → RelV x v → RelV y u → R x y H2 → wpAny (model X.prog X.w) X.A (f v u) Q X.xe s2) :
    wpAny (model X.prog X.w) X.A (eval a X.env) (fun v s₁ => wpAny (model X.prog X.w) X.A (eval b X.env) (fun u s₂ => wpAny (model X.prog X.w) X.A (f v u) Q X.xe s₂) X.xe s₁) X.xe s := by
  refine thn (ha pins s σ H _ I h) fun v s1 ⟨x, H1, I1, r1, q1⟩ => ?_
  refine thn (hb pins s1 σ H1 _ I1 q1) fun u s2 ⟨y, H2, I2, r2, q2⟩ => ?_
  exact hf v u s2 x y H2 I2 r1 r2 q2

theorem pe_op {op : Operator} {r : R2} (ho : OpR X (binaryOp op) r) (ha : PE X a ta) (hb : PE X b tb) : PE X (.BinOp a op b pos) (tOp r ta tb) := by
  intro pins s σ H Q I h
  exact wpAny_BinOp (binT ha hb I h fun v u s2 x y H2 I2 rx ry q => ho pins s2 σ H2 x y v u Q I2 rx ry q)
theorem pe_un {op : UnaryOp} {r : V → Hp → VK → Prop} (ho : UnR X (unaryOp op) r) (ha : PE X a ta) : PE X (.UnaryOp op a pos) (tUn r ta) := by
  intro pins s σ H Q I h
  exact UnaryOp_ (thn (ha pins s σ H _ I h) fun v s1 ⟨x, H1, I1, r1, q1⟩ => ho pins s1 σ H1 x v Q I1 r1 q1)
/-! ### ints -/
theorem opI {f : Value → Value → Sem Value} {C : Int → Int → Prop} {g : Int → Int → Int}
    (rule : ∀ (i j : Int) (t u : Tok) (s : Shared) (Q : Value → Shared → Prop) (E : Value → Shared → Prop), C i j → Q (.int (g i j) s.toks) { s with toks := s.toks + 1 } → wpAny (model X.prog X.w) X.A (f (.int i t) (.int j u)) Q E s) :
    OpR X f (rI C fun i j => .int (g i j)) := by
  intro pins s σ H x y v u Q I rx ry h
  obtain ⟨i, j, rfl, rfl, hc, q⟩ := h
  obtain ⟨t, rfl⟩ := rx
  obtain ⟨t', rfl⟩ := ry
  exact rule i j t t' s _ _ hc ⟨.int (g i j), H, I.tok _, ⟨_, rfl⟩, q⟩
theorem opI0 {f : Value → Value → Sem Value} {g : Int → Int → Int}
    (rule : ∀ (i j : Int) (t u : Tok) (s : Shared) (Q : Value → Shared → Prop) (E : Value → Shared → Prop), Q (.int (g i j) s.toks) { s with toks := s.toks + 1 } → wpAny (model X.prog X.w) X.A (f (.int i t) (.int j u)) Q E s) :
    OpR X f (rI0 fun i j => .int (g i j)) := by
  intro pins s σ H x y v u Q I rx ry h
  obtain ⟨i, j, rfl, rfl, q⟩ := h
  obtain ⟨t, rfl⟩ := rx
  obtain ⟨t', rfl⟩ := ry
  exact rule i j t t' s _ _ ⟨.int (g i j), H, I.tok _, ⟨_, rfl⟩, q⟩
theorem opB0 {f : Value → Value → Sem Value} {g : Int → Int → Bool}
    (rule : ∀ (i j : Int) (t u : Tok) (s : Shared) (Q : Value → Shared → Prop) (E : Value → Shared → Prop), Q (.bool (g i j)) s → wpAny (model X.prog X.w) X.A (f (.int i t) (.int j u)) Q E s) :
    OpR X f (rI0 fun i j => .bl (g i j)) := by
  intro pins s σ H x y v u Q I rx ry h
  obtain ⟨i, j, rfl, rfl, q⟩ := h
  obtain ⟨t, rfl⟩ := rx
  obtain ⟨t', rfl⟩ := ry
  exact rule i j t t' s _ _ ⟨.bl (g i j), H, I, rfl, q⟩

def CDiv (i j : Int) : Prop := 0 < j ∧ j < 1073741824
def CPow (i j : Int) : Prop := 0 ≤ j ∧ j ≤ 1000000 ∧ i.natAbs < 2 ^ 64
def CMul (i j : Int) : Prop := (-(2 ^ 64) < i ∧ i < 2 ^ 64) ∨ (-(2 ^ 64) < j ∧ j < 2 ^ 64)
theorem CMul.ok {i j : Int} (h : CMul i j) : IntMulOk i j := by
  rcases h with ⟨h1, h2⟩ | ⟨h1, h2⟩
  · exact .of_left (intBits_le_64 h1 h2)
  · exact .of_right (intBits_le_64 h1 h2)
theorem op_add : OpR X (binaryOp .Add) (rI0 fun i j => .int (i + j)) := opI0 fun _ _ _ _ _ _ _ q => add_int q
theorem op_sub : OpR X (binaryOp .Sub) (rI0 fun i j => .int (i - j)) := opI0 fun _ _ _ _ _ _ _ q => sub_int q
theorem op_mul : OpR X (binaryOp .Mult) (rI CMul fun i j => .int (i * j)) := opI fun _ _ _ _ _ _ _ hc q => mul_int q hc.ok
/-- // by a positive divisor -/
theorem op_fdiv : OpR X (binaryOp .FloorDiv) (rI CDiv fun i j => .int (i / j)) := opI fun i j _ _ _ _ _ hc q => by
  have h1 : (0 : Int) < j := hc.1
  have h2 : j < 1073741824 := hc.2
  exact floordiv_int (by omega) (by rw [Int.fdiv_eq_ediv_of_nonneg i (by omega)]; exact q) (.inl (PyProof.noPylong_small (by omega)))
/-- % by a positive divisor of any size -/
theorem op_mod : OpR X (binaryOp .Mod) (rI (fun _ j => 0 < j) fun i j => .int (i % j)) := opI fun i j _ _ _ _ _ hc q => by
  have h1 : (0 : Int) < j := hc
  exact mod_int' (by omega) (by rw [Int.fmod_eq_emod_of_nonneg i (by omega)]; exact q)
theorem op_pow : OpR X (binaryOp .Pow) (rI CPow fun i j => .int (i ^ j.toNat)) := opI fun _ _ _ _ _ _ _ hc q => pow_int_small hc.1 hc.2.1 hc.2.2 q
theorem unI {f : Value → Sem Value} {g : Int → Int}
    (rule : ∀ (i : Int) (t : Tok) (s : Shared) (Q : Value → Shared → Prop) (E : Value → Shared → Prop), Q (.int (g i) s.toks) { s with toks := s.toks + 1 } → wpAny (model X.prog X.w) X.A (f (.int i t)) Q E s) :
    UnR X f (rU fun i => .int (g i)) := by
  intro pins s σ H x v Q I rx h
  obtain ⟨i, rfl, q⟩ := h
  obtain ⟨t, rfl⟩ := rx
  exact rule i t s _ _ ⟨.int (g i), H, I.tok _, ⟨_, rfl⟩, q⟩
theorem un_neg : UnR X (unaryOp .USub) (rU fun i => .int (-i)) := unI fun _ _ _ _ _ q => neg_int q
/-! ### bools among ints: n += (a < b) -/
end

/-! ### comparisons -/
/-- the scalars that == tells apart as data does -/
def scal : V → V → Bool
  | .non, .non => true | .non, .int _ => true | .int _, .non => true | .non, .bl _ => true | .bl _, .non => true | .non, .str _ => true | .str _, .non => true
  | .int _, .int _ => true | .bl _, .bl _ => true | .str _, .str _ => true | .byt _, .byt _ => true
  | .int _, .str _ => true | .str _, .int _ => true | .bl _, .str _ => true | .str _, .bl _ => true
  | _, _ => false
def rEq : R2 := fun x y H Q => scal x y = true ∧ Q (.bl (decide (x = y))) H
def rNe : R2 := fun x y H Q => scal x y = true ∧ Q (.bl (!decide (x = y))) H

theorem dec_int {i j : Int} : decide (V.int i = V.int j) = (i == j) := by
  rw [Bool.eq_iff_iff]
  simp
theorem dec_bl {i j : Bool} : decide (V.bl i = V.bl j) = (i == j) := by
  rw [Bool.eq_iff_iff]
  simp
theorem dec_str {i j : Str} : decide (V.str i = V.str j) = (i == j) := by
  rw [Bool.eq_iff_iff]
  simp
theorem dec_byt {i j : Array UInt8} : decide (V.byt i = V.byt j) = (i.toList == j.toList) := by
  rw [Bool.eq_iff_iff]
  cases i
  cases j
  simp

section
variable {X : Cx} {a b c : Expr} {ta tb tc : TE} {pos : Pos}
theorem fin_bl {pins : List (Addr × Obj)} {σ : St} {H : Hp} {s : Shared} {Q : VK} {k k' : Bool} (I : Inv X pins σ H s) (q : Q (.bl k) H) (e : k = k') : EP X pins σ Q (.bool k') s := by
  subst e
  exact ⟨.bl k, H, I, rfl, q⟩
theorem op_eq : OpR X (compareOp .Eq) rEq := by
  intro pins s σ H x y v u Q I rx ry h
  obtain ⟨hs, q⟩ := h
  cases x with
  | non =>
    cases rx
    cases y with
    | non => cases ry; exact PySem.EqNone.eq_none_none (fin_bl I q (by simp))
    | bl j => cases ry; exact PySem.EqNone.eq_none_bool (fin_bl I q (by simp))
    | int j => obtain ⟨t', rfl⟩ := ry; exact PySem.EqNone.eq_none_int (fin_bl I q (by simp))
    | str j => obtain ⟨t', rfl⟩ := ry; exact PySem.EqNone.eq_none_str (fin_bl I q (by simp))
    | _ => exact absurd (show false = true from hs) Bool.false_ne_true
  | bl i =>
    cases rx
    cases y with
    | non => cases ry; exact PySem.EqNone.eq_bool_none (fin_bl I q (by simp))
    | bl j => cases ry; exact eq_bool (fin_bl I q dec_bl)
    | str j => obtain ⟨t', rfl⟩ := ry; exact PySem.EqMixed.eq_bool_str (fin_bl I q (by simp))
    | _ => exact absurd (show false = true from hs) Bool.false_ne_true
  | int i =>
    obtain ⟨t, rfl⟩ := rx
    cases y with
    | non => cases ry; exact PySem.EqNone.eq_int_none (fin_bl I q (by simp))
    | int j => obtain ⟨t', rfl⟩ := ry; exact eq_int (fin_bl I q dec_int)
    | str j => obtain ⟨t', rfl⟩ := ry; exact PySem.EqMixed.eq_int_str (fin_bl I q (by simp))
    | _ => exact absurd (show false = true from hs) Bool.false_ne_true
  | str i =>
    obtain ⟨t, rfl⟩ := rx
    cases y with
    | non => cases ry; exact PySem.EqNone.eq_str_none (fin_bl I q (by simp))
    | bl j => cases ry; exact PySem.EqMixed.eq_str_bool (fin_bl I q (by simp))
    | int j => obtain ⟨t', rfl⟩ := ry; exact PySem.EqMixed.eq_str_int (fin_bl I q (by simp))
    | str j => obtain ⟨t', rfl⟩ := ry; exact eq_str (fin_bl I q dec_str)
    | _ => exact absurd (show false = true from hs) Bool.false_ne_true
  | byt i =>
    obtain ⟨t, rfl⟩ := rx
    cases y with
    | byt j => obtain ⟨t', rfl⟩ := ry; exact PySem.W.eq_bytes (fin_bl I q dec_byt)
    | _ => exact absurd (show false = true from hs) Bool.false_ne_true
  | _ => cases y <;> exact absurd (show false = true from hs) Bool.false_ne_true
theorem op_ne : OpR X (compareOp .NotEq) rNe := by
  intro pins s σ H x y v u Q I rx ry h
  obtain ⟨hs, q⟩ := h
  cases x with
  | non =>
    cases rx
    cases y with
    | non => cases ry; exact PySem.EqNone.ne_none_none (fin_bl I q (by simp))
    | bl j => cases ry; exact PySem.EqNone.ne_none_bool (fin_bl I q (by simp))
    | int j => obtain ⟨t', rfl⟩ := ry; exact PySem.EqNone.ne_none_int (fin_bl I q (by simp))
    | str j => obtain ⟨t', rfl⟩ := ry; exact PySem.EqNone.ne_none_str (fin_bl I q (by simp))
    | _ => exact absurd (show false = true from hs) Bool.false_ne_true
  | bl i =>
    cases rx
    cases y with
    | non => cases ry; exact PySem.EqNone.ne_bool_none (fin_bl I q (by simp))
    | bl j => cases ry; exact ne_bool (fin_bl I q (congrArg not dec_bl))
    | str j => obtain ⟨t', rfl⟩ := ry; exact PySem.EqMixed.ne_bool_str (fin_bl I q (by simp))
    | _ => exact absurd (show false = true from hs) Bool.false_ne_true
  | int i =>
    obtain ⟨t, rfl⟩ := rx
    cases y with
    | non => cases ry; exact PySem.EqNone.ne_int_none (fin_bl I q (by simp))
    | int j => obtain ⟨t', rfl⟩ := ry; exact ne_int (fin_bl I q (congrArg not dec_int))
    | str j => obtain ⟨t', rfl⟩ := ry; exact PySem.EqMixed.ne_int_str (fin_bl I q (by simp))
    | _ => exact absurd (show false = true from hs) Bool.false_ne_true
  | str i =>
    obtain ⟨t, rfl⟩ := rx
    cases y with
    | non => cases ry; exact PySem.EqNone.ne_str_none (fin_bl I q (by simp))
    | bl j => cases ry; exact PySem.EqMixed.ne_str_bool (fin_bl I q (by simp))
    | int j => obtain ⟨t', rfl⟩ := ry; exact PySem.EqMixed.ne_str_int (fin_bl I q (by simp))
    | str j => obtain ⟨t', rfl⟩ := ry; exact ne_str (fin_bl I q (congrArg not dec_str))
    | _ => exact absurd (show false = true from hs) Bool.false_ne_true
  | byt i =>
    obtain ⟨t, rfl⟩ := rx
    cases y with
    | byt j => obtain ⟨t', rfl⟩ := ry; exact PySem.W.ne_bytes (fin_bl I q (congrArg not dec_byt))
    | _ => exact absurd (show false = true from hs) Bool.false_ne_true
  | _ => cases y <;> exact absurd (show false = true from hs) Bool.false_ne_true

theorem op_lt : OpR X (compareOp .Lt) (rI0 fun i j => .bl (decide (i < j))) := opB0 fun _ _ _ _ _ _ _ q => lt_int q
theorem op_le : OpR X (compareOp .LtE) (rI0 fun i j => .bl (decide (i ≤ j))) := opB0 fun _ _ _ _ _ _ _ q => le_int q
theorem op_gt : OpR X (compareOp .Gt) (rI0 fun i j => .bl (decide (j < i))) := opB0 fun _ _ _ _ _ _ _ q => gt_int q
theorem op_ge : OpR X (compareOp .GtE) (rI0 fun i j => .bl (decide (j ≤ i))) := opB0 fun _ _ _ _ _ _ _ q => ge_int q
/-- is None, is not None: the right side a value none -/
theorem op_isN : OpR X (compareOp .Is) (fun x y H Q => y = .non ∧ Q (.bl (decide (x = .non))) H) := by
  intro pins s σ H x y v u Q I rx ry h
  obtain ⟨rfl, q⟩ := h
  cases ry
  refine is_none_gen (fin_bl I q ?_)
  cases x <;> first
    | (cases rx; rfl)
    | (obtain ⟨t, rfl⟩ := rx; rfl)
theorem op_notN : OpR X (compareOp .IsNot) (fun x y H Q => y = .non ∧ Q (.bl (!decide (x = .non))) H) := by
  intro pins s σ H x y v u Q I rx ry h
  obtain ⟨rfl, q⟩ := h
  cases ry
  refine isnot_none_gen (fin_bl I q ?_)
  cases x <;> first
    | (cases rx; rfl)
    | (obtain ⟨t, rfl⟩ := rx; rfl)

/-- is, is not of two objects that are tracked lists or instances -/
def isObj : HO → Bool
  | .lst _ => true
  | .ins _ _ _ => true
  | _ => false
theorem nomark (b : Expr) {op : CmpOp} (h : op ≠ .In := by decide) (h2 : op ≠ .NotIn := by decide) : behindInMarks op b = false := by
  have e1 : (op == CmpOp.In) = false := by cases op <;> first | rfl | exact absurd rfl h
  have e2 : (op == CmpOp.NotIn) = false := by cases op <;> first | rfl | exact absurd rfl h2
  cases b <;> simp [behindInMarks, e1, e2]
/-- a comparison as a value; hm: nomark b, or (for in, not in) by with_unfolding_all rfl -/
theorem pe_cmpR {op : CmpOp} {r : R2} (ho : OpR X (compareOp op) r) (ha : PE X a ta) (hb : PE X b tb) (hm : behindInMarks op b = false) : PE X (.Compare a [op] [b] pos) (tOp r ta tb) := by
  intro pins s σ H Q I h
  exact wpAny_Compare1 (binT ha hb I h fun v u s2 x y H2 I2 rx ry q => ho pins s2 σ H2 x y v u Q I2 rx ry q) hm
/-- a reading of a value as a test -/
def tTest (t : TE) : TT := fun σ H Q => t σ H fun x H' => ∃ k, x = .bl k ∧ Q k H'
theorem pt_cmpR {op : CmpOp} {r : R2} (ho : OpR X (compareOp op) r) (ha : PE X a ta) (hb : PE X b tb) (hm : behindInMarks op b = false) : PT X (.Compare a [op] [b] pos) (tTest (tOp r ta tb)) := by
  intro pins s σ H Q I h
  refine wpAny_isTrue_Compare1 (thn (ha pins s σ H _ I h) fun v s1 ⟨x, H1, I1, r1, q1⟩ => thn (hb pins s1 σ H1 _ I1 q1) fun u s2 ⟨y, H2, I2, r2, q2⟩ =>
    thn (ho pins s2 σ H2 x y v u _ I2 r1 r2 q2) fun c s3 ⟨z, H3, I3, r3, k, e, q3⟩ => ?_) hm
  subst e
  cases r3
  exact wpAny_truthy_bool ⟨H3, I3, q3⟩
/-- a op1 b op2 c -/
def tChain (r r' : R2) (ta tb tc : TE) : TE := fun σ H Q => ta σ H fun x H1 => tb σ H1 fun y H2 => r x y H2 fun z H3 => ∃ k, z = .bl k ∧
  (if k = true then tc σ H3 fun w' H4 => r' y w' H4 Q else Q (.bl false) H3)
theorem pe_chain {op op' : CmpOp} {r r' : R2} (ho : OpR X (compareOp op) r) (ho' : OpR X (compareOp op') r') (ha : PE X a ta) (hb : PE X b tb) (hc : PE X c tc)
    (hm : lastMarks [op, op'] [b, c] = false := by with_unfolding_all rfl) : PE X (.Compare a [op, op'] [b, c] pos) (tChain r r' ta tb tc) := by
  intro pins s σ H Q I h
  refine Compare_chain (thn (ha pins s σ H _ I h) fun v s1 ⟨x, H1, I1, r1, q1⟩ => chain_link (thn (hb pins s1 σ H1 _ I1 q1) fun u s2 ⟨y, H2, I2, r2, q2⟩ =>
    thn (ho pins s2 σ H2 x y v u _ I2 r1 r2 q2) fun d s3 ⟨z, H3, I3, r3, k, e, q3⟩ => ?_)) hm
  subst e
  cases r3
  refine wpAny_truthy_bool ?_
  cases k with
  | false => exact ite_ff ⟨.bl false, H3, I3, rfl, q3⟩
  | true => exact ite_tt (chain_last (thn (hc pins s3 σ H3 _ I3 q3) fun w' s4 ⟨z', H4, I4, r4, q4⟩ => ho' pins s4 σ H4 y z' u w' Q I4 r2 r4 q4))
/-! ### truth -/
theorem line63 : (sizeLine : Nat) < 2 ^ 63 := by rw [sizeLine_eq]; decide
/-! ### strs and bytes -/
/-! ### scalar builtins, by CallR -/
theorem vals1 {x : V} {us : List Value} (r : Vals [x] us) : ∃ u, us = [u] ∧ RelV x u := by
  cases r with
  | cons r1 r2 => cases r2; exact ⟨_, rfl, r1⟩
theorem vals2 {x y : V} {us : List Value} (r : Vals [x, y] us) : ∃ u w', us = [u, w'] ∧ RelV x u ∧ RelV y w' := by
  cases r with
  | cons r1 r2 =>
    cases r2 with
    | cons r3 r4 => cases r4; exact ⟨_, _, rfl, r1, r3⟩
theorem call_max2 (hc : X.calm = true) : CallR X (.builtin "max") (fun xs H Q => ∃ i j, xs = [.int i, .int j] ∧ Q (.int (if j > i then j else i)) H) := by
  intro pins s σ H xs us Q I r h
  obtain ⟨i, j, rfl, q⟩ := h
  obtain ⟨u, w', rfl, ⟨t, rfl⟩, ⟨t', rfl⟩⟩ := vals2 r
  refine max_two_ints (I.ok.hd hc) fun h' tk k => ⟨_, H, I.kept k, ?_, q⟩
  by_cases hj : j > i
  · rw [if_pos hj, if_pos hj]; exact ⟨_, rfl⟩
  · rw [if_neg hj, if_neg hj]; exact ⟨_, rfl⟩
theorem call_min2 (hc : X.calm = true) : CallR X (.builtin "min") (fun xs H Q => ∃ i j, xs = [.int i, .int j] ∧ Q (.int (if j < i then j else i)) H) := by
  intro pins s σ H xs us Q I r h
  obtain ⟨i, j, rfl, q⟩ := h
  obtain ⟨u, w', rfl, ⟨t, rfl⟩, ⟨t', rfl⟩⟩ := vals2 r
  refine min_two_ints (I.ok.hd hc) fun h' tk k => ⟨_, H, I.kept k, ?_, q⟩
  by_cases hj : j < i
  · rw [if_pos hj, if_pos hj]; exact ⟨_, rfl⟩
  · rw [if_neg hj, if_neg hj]; exact ⟨_, rfl⟩
theorem call_int1 : CallR X (.type "int") (fun xs H Q => (∃ i, xs = [.int i] ∧ Q (.int i) H) ∨ ∃ k, xs = [.bl k] ∧ Q (.int (if k then 1 else 0)) H) := by
  intro pins s σ H xs us Q I r h
  rcases h with ⟨i, rfl, q⟩ | ⟨k, rfl, q⟩
  · obtain ⟨u, rfl, t, rfl⟩ := vals1 r
    exact call_int_int ⟨.int i, H, I, ⟨_, rfl⟩, q⟩
  · obtain ⟨u, rfl, r1⟩ := vals1 r
    cases r1
    exact call_int_bool ⟨.int (if k then 1 else 0), H, I.tok _, ⟨_, rfl⟩, q⟩
end
end L2

namespace L2
open PySem PySem.Spec PyProof.Rows

/-! ### an instance, its attributes a map -/
structure ObjM (h : Heap) (x dx C : Addr) (mA : Str → Option Value) : Prop where
  obj : h.get? x = some (PySem.W.instObj C dx)
  ns : h.Ns1 dx mA
  ne : dx ≠ x

theorem lookIn_ns {h : Heap} {dx : Addr} {mA : Str → Option Value} (n : h.Ns1 dx mA) : ∃ od, h.get? dx = some od ∧ ∀ name, PySem.W.lookIn name od = some (mA name) := by
  obtain ⟨o, es, ep, ho, hd, hk, _, hm⟩ := n
  refine ⟨o, ho, fun name => ?_⟩
  have e := hm name
  unfold nsFind findBy at e
  rw [← Array.find?_toList] at e
  unfold PySem.W.lookIn
  rw [hd]
  dsimp only
  split
  · rename_i y q
    rw [q] at e
    exact congrArg some e
  · rename_i q
    rw [q] at e
    have a : es.toList.any (·.refKey) = false := by
      rw [List.any_eq_false]
      intro y hy
      obtain ⟨z, t, hkey⟩ := hk y (Array.mem_toList_iff.mp hy)
      simp [DictEntry.refKey, hkey]
    have a' : ¬ es.toList.any (·.refKey) = true := by rw [a]; exact Bool.false_ne_true
    rw [if_neg a']
    exact congrArg some e

theorem ObjM.look {h : Heap} {x dx C : Addr} {mA : Str → Option Value} (I : ObjM h x dx C mA) : ∃ od, PySem.W.InstAt h x (PySem.W.instObj C dx) C (some od) ∧ ∀ name, PySem.W.lookIn name od = some (mA name) :=
  let ⟨od, ho, hl⟩ := lookIn_ns I.ns
  ⟨od, ⟨I.obj, rfl, rfl, ho⟩, hl⟩

section
variable {prog : Program} {w : World} {A : Around} {E : Value → Shared → Prop} {s : Shared} {K : PySem.W.Frag} {x dx C f : Addr} {mA : Str → Option Value} {name : Str} {v : Value}

end

/-! ### the attributes as a list of pairs -/
theorem RelO.some_of {v : V} {o : Option Value} (r : RelO (some v) o) : ∃ u, o = some u ∧ RelV v u := by
  cases o with
  | none => exact (show False from r).elim
  | some u => exact ⟨u, rfl, r⟩
section
variable {P : Program} {w : World} {H H' : Hp} {h h' : Heap} {a C dx : Addr} {fs fs' : List (Str × V)}
theorem ins_get (hok : HOk P w H h) (e : H a = some (.ins C dx fs)) : ∃ mA, ObjM h a dx C mA ∧ (∀ f, RelO (fs.lookup f) (mA f)) ∧ PySem.Within mA (fs.map (·.1)) ∧ fs.length ≤ 1000 ∧ H dx = some (.own a) := by
  obtain ⟨d, z, ne, ob, mA, n, r, q⟩ := (show ObjOk P w H h a (.ins C dx fs) from hok a _ e)
  exact ⟨mA, ⟨ob, n, ne⟩, r, q, z, d⟩
end

/-! ### what of the text a class must have -/
structure Cls (K : PySem.W.Frag) (C : Addr) : Prop where
  pg : PySem.W.plainGet K C Str.empty = true
  hd : PySem.W.hasDictIn K C = true
  po : PySem.W.plainOver K C = true
  sa : PySem.W.findIn K (.ref C) "__setattr__" = some (some (.builtin "object.__setattr__"))
theorem Cls.get {K : PySem.W.Frag} {C : Addr} (c : Cls K C) (f : Str) : PySem.W.plainGet K C f = true := c.pg
section
variable {X : Cx} {pins : List (Addr × Obj)} {σ : St} {H : Hp} {s : Shared} {a C dx : Addr} {fs : List (Str × V)} {f : Str} {v : V} {A : Around} {E : Value → Shared → Prop}

end

/-! ### readings and rules -/
section
variable {X : Cx} {o e value : Expr} {f : Str} {pos pos' tpos : Pos} {ta tv : TE}
end

/-! ### isinstance -/
section
variable {X : Cx} {pins : List (Addr × Obj)} {σ : St} {H : Hp} {s : Shared} {A : Around} {E : Value → Shared → Prop} {Q : Value → Shared → Prop} {c : Value} {b : Bool}
/-- the type of a value, as the fragment's deciders take it; for an instance its class -/
inductive TyOf (K : PySem.W.Frag) (H : Hp) : V → Value → Prop where
  | non : TyOf K H .non (.type "NoneType")
  | bl (x : Bool) : TyOf K H (.bl x) (.type "bool")
  | int (i : Int) : TyOf K H (.int i) (.type "int")
  | str (x : Str) : TyOf K H (.str x) (.type "str")
  | flt (x : UInt64) : TyOf K H (.flt x) (.type "float")
  | lst {a : Addr} {xs : List V} (e : H a = some (.lst xs)) : TyOf K H (.ref a) (.type "list")
  | frz {a : Addr} {o : Obj} {xs : List V} (e : H a = some (.frz o (.lst xs))) : TyOf K H (.ref a) (.type "list")
  | tup {a : Addr} {xs : List V} (e : H a = some (.tup xs)) : TyOf K H (.ref a) (.type "tuple")
  | dK {a : Addr} {kvs : List (Key × V)} (e : H a = some (.dK kvs)) : TyOf K H (.ref a) (.type "dict")
  | dT {a : Addr} {kvs : List (List Key × V)} (e : H a = some (.dT kvs)) : TyOf K H (.ref a) (.type "dict")
  | ins {a C dx : Addr} {fs : List (Str × V)} (e : H a = some (.ins C dx fs)) (cl : Cls K C) (ha : PySem.W.findIn K (.ref C) "__class__" = some (some (.builtin "object.__class__")))
      (hn : PySem.W.specialIn K (.builtin "object.__class__") "__get__" = some (some (.builtin "getset_descriptor.__get__"))) (htk : PySem.W.takesIn K (.builtin "object.__class__") = some true)
      (hm : PySem.W.mroIn K C (.type "object") = some true) : TyOf K H (.ref a) (.ref C)
/-- isinstance(x, c) for one class c, a built-in or an own one: kitOne's answer -/
theorem isinst_ok {x : V} {u t : Value} (I : Inv X pins σ H s) (rx : RelV x u) (ty : TyOf X.K H x t) (e : PySem.W.kitOne X.K t c = some b) (h : ∀ tk, Q (.bool b) { s with toks := tk }) :
    wpAny (model X.prog X.w) A (call (.builtin "isinstance") [u, c]) Q E s := by
  cases ty with
  | non => cases (show u = Value.none from rx); exact PySem.W.kia_one PySem.W.kitx_none I.kIn True.intro e (fun z => nomatch z) h
  | bl y => cases (show u = Value.bool y from rx); exact PySem.W.kia_one PySem.W.kitx_bool I.kIn True.intro e (fun z => nomatch z) h
  | int i => obtain ⟨t, q⟩ := (show ∃ t, u = Value.int i t from rx); cases q; exact PySem.W.kia_one PySem.W.kitx_int I.kIn True.intro e (fun z => nomatch z) h
  | str y => obtain ⟨t, q⟩ := (show ∃ t, u = Value.str y t from rx); cases q; exact PySem.W.kia_one PySem.W.kitx_str I.kIn True.intro e (fun z => nomatch z) h
  | flt y => obtain ⟨t, q⟩ := (show ∃ t, u = Value.float y t from rx); cases q; exact PySem.W.kia_one PySem.W.kitx_float I.kIn True.intro e (fun z => nomatch z) h
  | @lst a xs ea =>
    cases (show u = Value.ref a from rx)
    obtain ⟨_, _, n, _, h1⟩ := (show ObjOk X.prog X.w H s.heap a (.lst xs) from I.hok a _ ea)
    exact PySem.W.kia_one PySem.W.kitx_list I.kIn ⟨_, h1, rfl⟩ e (fun z => nomatch z) h
  | @frz a ob xs ea =>
    cases (show u = Value.ref a from rx)
    obtain ⟨_, _, _, n, _, h1⟩ := (show ObjOk X.prog X.w H s.heap a (.frz ob (.lst xs)) from I.hok a _ ea)
    exact PySem.W.kia_one PySem.W.kitx_list I.kIn ⟨_, h1, rfl⟩ e (fun z => nomatch z) h
  | @tup a xs ea =>
    cases (show u = Value.ref a from rx)
    obtain ⟨_, _, _, p⟩ := (show ObjOk X.prog X.w H s.heap a (.tup xs) from I.hok a _ ea)
    obtain ⟨o, h1, h2, _⟩ := p
    exact PySem.W.kia_one PySem.W.kitx_tuple I.kIn ⟨o, h1, h2⟩ e (fun z => nomatch z) h
  | @dK a kvs ea =>
    cases (show u = Value.ref a from rx)
    obtain ⟨_, _, vs, _, p⟩ := (show ObjOk X.prog X.w H s.heap a (.dK kvs) from I.hok a _ ea)
    obtain ⟨o, es, ep, h1, h2, _⟩ := p
    exact PySem.W.kia_one PySem.W.kitx_dict I.kIn ⟨o, h1, h2.1⟩ e (fun z => nomatch z) h
  | @dT a kvs ea =>
    cases (show u = Value.ref a from rx)
    obtain ⟨_, _, xs, _, o, es, ep, h1, h2, _⟩ := (show ObjOk X.prog X.w H s.heap a (.dT kvs) from I.hok a _ ea)
    exact PySem.W.kia_one PySem.W.kitx_dict I.kIn ⟨o, h1, h2.1⟩ e (fun z => nomatch z) h
  | @ins a C dx fs ea cl ha hn htk hm =>
    cases (show u = Value.ref a from rx)
    obtain ⟨mA, O, _⟩ := ins_get I.hok ea
    obtain ⟨od, J, _⟩ := O.look
    exact PySem.W.kia_one (PySem.W.kitx_own (cl.get _) cl.hd ha hn htk hm) I.kIn J e (fun z => nomatch z) h
end
end L2

namespace L2
open PySem PySem.Spec PyProof.Rows

/-! ### room -/
structure Room (k : Nat) (A : Around) : Prop where
  hd : A.handled = none
  dp : A.depth + 3 * k + 5 < recursionLimit
  un : A.units + 16 * k + 200 < cLine
theorem Room.mono {j k : Nat} {A : Around} (r : Room k A) (h : j ≤ k) : Room j A := ⟨r.hd, by have := r.dp; omega, by have := r.un; omega⟩
theorem Room.deeper {k : Nat} {A : Around} (r : Room (k + 1) A) (env : Env) : Room k (A.deeper env) :=
  ⟨r.hd, by have := r.dp; show A.depth + 1 + 3 * k + 5 < _; omega, by have := r.un; show A.units + 3 + 16 * k + 200 < _; omega⟩
theorem Room.depth {k : Nat} {A : Around} (r : Room k A) : A.depth < recursionLimit := by have := r.dp; omega
theorem Room.units {k : Nat} {A : Around} (r : Room k A) : A.units + 64 < cLine := by have := r.un; omega
/-! ### argument lists and displays -/
def tNil : TA := fun _ H Q => Q [] H
def tCons (ta : TE) (tr : TA) : TA := fun σ H Q => ta σ H fun x H1 => tr σ H1 fun xs H2 => Q (x :: xs) H2
section
variable {X : Cx} {e : Expr} {es : List Expr} {te : TE} {t : TA} {pos : Pos}
theorem pa_nil : PA X [] tNil := fun _ _ _ _ H Q I h => Calls.spliced_nil ⟨[], H, I, .nil, h⟩
theorem pa_cons (ha : PE X e te) (hr : PA X es t) (hs : starEach (e :: es) X.env = (false, eval e X.env) :: starEach es X.env := by rfl) : PA X (e :: es) (tCons te t) := by
  intro pos pins s σ H Q I h
  rw [hs]
  show wpAny _ _ (spliced ((false, eval e X.env) :: backTo pos (starEach es X.env))) _ _ s
  refine Calls.spliced_cons (thn (ha pins s σ H _ I h) fun u s1 ⟨x, H1, I1, r1, q1⟩ => ?_)
  exact thn (hr pos pins s1 σ H1 _ I1 q1) fun us s2 ⟨xs, H2, I2, r2, q2⟩ => ⟨x :: xs, H2, I2, .cons r1 r2, q2⟩

/-- a tuple, a list of written items -/
def tTup (t : TA) : TE := fun σ H Q => t σ H fun xs H1 => xs.length ≤ sizeLine ∧ ∀ p, H1 p = none → Q (.ref p) (upd H1 p (.tup xs))
def tLst (t : TA) : TE := fun σ H Q => t σ H fun xs H1 => xs.length ≤ sizeLine ∧ ∀ p, H1 p = none → Q (.ref p) (upd H1 p (.lst xs))
theorem pe_tup {x1} (h : PA X es t) : PE X (.Tuple es x1 pos) (tTup t) := by
  intro pins s σ H Q I hq
  refine wpAny_Tuple_spliced (thn (h pos pins s σ H _ I hq) fun us s1 ⟨xs, H1, I1, r, z, q⟩ => ⟨by rw [← r.length]; exact z, ?_⟩)
  have hf : H1 s1.heap.objs.size = none := I1.hok.fresh (Nat.le_refl _)
  refine ⟨.ref s1.heap.objs.size, upd H1 s1.heap.objs.size (.tup xs), I1.laid (t' := s1.toks) (fun b u e => Heap.get?_push_of_some _ e) (Nat.le_refl _) ?_, rfl, q _ hf⟩
  exact ⟨z, us, r, ⟨_, Heap.get?_push_size _ rfl, rfl, _, rfl⟩⟩
theorem pe_lst (h : PA X es t) : PE X (.List es pos) (tLst t) := by
  intro pins s σ H Q I hq
  refine wpAny_List_spliced (thn (h pos pins s σ H _ I hq) fun us s1 ⟨xs, H1, I1, r, z, q⟩ => ⟨by rw [← r.length]; exact z, ?_⟩)
  have hf : H1 s1.heap.objs.size = none := I1.hok.fresh (Nat.le_refl _)
  refine ⟨.ref s1.heap.objs.size, upd H1 s1.heap.objs.size (.lst xs), I1.laid (t' := s1.toks) (fun b u e => Heap.get?_push_of_some _ e) (Nat.le_refl _) ?_, rfl, q _ hf⟩
  exact ⟨z, us, 0, r, Heap.get?_push_size _ rfl⟩
end

/-! ### what a def promises -/
/-- a def's promise: the bound arguments in the parameters' order, the heap, the wanted end, the wanted exception -/
abbrev Sp := List V → Hp → VK → XK → Prop
/-- how an exception lies behind a call (file 08 gives it): the callers' frames, abstract heap and state ahead of the call, the wish, the exception, the state -/
abbrev CXT := List Env → Hp → Shared → XK → Value → Shared → Prop

/-- the state at a call -/
structure Env0 (P : Program) (w : World) (K : PySem.W.Frag) (mg : Str → Option Value) (base : Heap) (A : Around) (outer : List Env) (s : Shared) (H : Hp) : Prop where
  frames : A.frames = some outer
  mod : Mod K mg base
  bs : ∀ b o, base.get? b = some o → s.heap.get? b = some o ∧ H b = none
  bsz : base.objs.size ≤ s.heap.objs.size
  funs : s.heap.FunFrames base outer
  frf : ∀ b ∈ frs outer, H b = none
  hok : HOk P w H s.heap
  bare : AllBare s.gens
/-- a call's end -/
def CE (outer : List Env) (P : Program) (w : World) (H : Hp) (s : Shared) (Q : VK) (u : Value) (s' : Shared) : Prop :=
  ∃ v H', s'.os = s.os ∧ AllBare s'.gens ∧ Un (frs outer) [] H H' s.heap s'.heap ∧ HOk P w H' s'.heap ∧ RelV v u ∧ Q v H'
def CR (CX : CXT) (outer : List Env) (P : Program) (w : World) (H : Hp) (s : Shared) (Q : VK) (E : XK) (r : Result) (s' : Shared) : Prop :=
  match r with
  | .ok (.ret u) => CE outer P w H s Q u s'
  | .ok _ => False
  | .error e => CX outer H s E e s'
structure FnOk (P : Program) (w : World) (K : PySem.W.Frag) (mg : Str → Option Value) (base : Heap) (CX : CXT) (k : Nat) (f : Addr) (fd : FuncData) (ps : List Str) (sp : Sp) : Prop where
  len : ∀ vs H Q E, sp vs H Q E → vs.length = ps.length
  run : ∀ (A : Around) (outer : List Env) (s : Shared) (H : Hp) (args : Args) (us : List Value) (vs : List V) (Q : VK) (E : XK), Room k A → Env0 P w K mg base A outer s H → BindsTo s fd args (ps.zip us) → Vals vs us → sp vs H Q E →
    codeAny (model P w) A (.call (.ref f) args) (CR CX outer P w H s Q E) s
section
variable {X : Cx} {pins : List (Addr × Obj)} {σ : St} {H : Hp} {s s' : Shared}
/-- from a body: what a callee wants -/
theorem Inv.env0 (I : Inv X pins σ H s) : Env0 X.prog X.w X.K X.mg X.base X.A X.stack s H :=
  ⟨I.ok.frames, I.ok.mod, I.bs, Nat.le_trans I.ok.bsz I.sz, I.stack, I.stkFree, I.hok, I.bare⟩
/-- behind a call -/
theorem Inv.after {Q : VK} {u : Value} (I : Inv X pins σ H s) (h : CE X.stack X.prog X.w H s Q u s') : EP X pins σ Q u s' := by
  obtain ⟨v, H', os, bare, un, hok, r, q⟩ := h
  obtain ⟨hh, g, d, t, os'⟩ := s'
  obtain rfl : os' = s.os := os
  exact ⟨v, H', I.call (h' := hh) (g' := g) (d' := d) (t' := t) (ch := []) un hok bare (fun b z => absurd z (by simp)), r, q⟩
end

/-! ### calls -/
/-- f(..): the written arguments, then the defaults dvs; E: what is wanted of an exception -/
def tCall (sp : Sp) (dvs : List V) (E : XK) (t : TA) : TE := fun σ H Q => t σ H fun vs H1 => sp (vs ++ dvs) H1 Q E
/-- how the parameters are bound: us the positional arguments, kw the keywords' values by name, ds the defaults that fill up -/
def Binds (K : PySem.W.Frag) (fd : FuncData) (ps : List Str) (ds : List Value) : Prop :=
  ∀ (s : Shared) (us : List Value), K.In s.heap → (us ++ ds).length = ps.length → BindsTo s fd ⟨us, []⟩ (ps.zip (us ++ ds))
/-- every parameter is given -/
theorem Binds.all {K : PySem.W.Frag} {fd : FuncData} {ps : List Str} (h : ∀ us : List Value, us.length = ps.length → bindArgs fd ⟨us, []⟩ = pure (ps.zip us)) : Binds K fd ps [] := fun s us _ hl => by
  rw [List.append_nil] at hl ⊢
  exact .of_eq (h us hl)

/-- an exception of a callee reaches what this body wants of exceptions -/
def Passes (CX : CXT) (X : Cx) (E : XK) : Prop := ∀ (pins : List (Addr × Obj)) (σ : St) (H : Hp) (s : Shared) (e : Value) (s' : Shared), Inv X pins σ H s → CX X.stack H s E e s' → X.xe e s'

section
variable {X : Cx} {CX : CXT} {k : Nat} {f C : Addr} {fd : FuncData} {ps : List Str} {sp : Sp} {dvs : List V} {ds : List Value} {E : XK} {x m : Str} {p pos apos : Pos} {e o : Expr} {es : List Expr} {ta : TE} {t : TA}

/-- the callee runs -/
theorem run_fn {pins : List (Addr × Obj)} {σ : St} {H : Hp} {s : Shared} {Q : VK} {us : List Value} {vs : List V} (F : FnOk X.prog X.w X.K X.mg X.base CX k f fd ps sp) (hr : Room k X.A) (hb : Binds X.K fd ps ds) (hd : Vals dvs ds) (hx : Passes CX X E)
    (I : Inv X pins σ H s) (r : Vals vs us) (h : sp (vs ++ dvs) H Q E) : wpAny (model X.prog X.w) X.A (call (.ref f) us) (EP X pins σ Q) X.xe s := by
  have r2 : Vals (vs ++ dvs) (us ++ ds) := r.append hd
  have hl : (us ++ ds).length = ps.length := by rw [← r2.length]; exact F.len _ _ _ _ h
  refine wpAny_call (codeAny_mono (F.run X.A X.stack s H ⟨us, []⟩ (us ++ ds) (vs ++ dvs) Q E hr I.env0 (hb s us I.kIn hl) r2 h) fun r s' hq => ?_)
  cases r with
  | error e => exact hx pins σ H s e s' I hq
  | ok fl =>
    cases fl with
    | ret u => exact I.after hq
    | next => exact False.elim hq
    | brk => exact False.elim hq
    | cont => exact False.elim hq

theorem pe_call (F : FnOk X.prog X.w X.K X.mg X.base CX k f fd ps sp) (hr : Room k X.A) (hg : Gl X x) (hm : X.mg x = some (.ref f)) (hk : PySem.W.keepIn X.K (.ref f) = true) (hb : Binds X.K fd ps ds) (hd : Vals dvs ds) (hx : Passes CX X E)
    (ha : PA X (e :: es) t) (hdb : (x == ("__debug__" : Str)) = false := by decide) (he : starEach (e :: es) X.env = (false, eval e X.env) :: starEach es X.env := by rfl) (hpl : (backTo pos (starEach es X.env)).any (·.1) = false := by rfl) :
    PE X (.Call (.Name x p) (e :: es) [] pos) (tCall sp dvs E t) := by
  intro pins s σ H Q I h
  refine wpAny_Call_Name_kw (ld_glob I hg hm ?_ hdb)
  refine PySem.W.callWith_K (h₀ := X.base) I.ok.mod.kin hk (thn (ha pos pins s σ H _ I h) fun us s1 ⟨vs, H1, I1, r, q⟩ => ⟨I1.kIn, ?_⟩) he hpl
  exact run_fn F hr hb hd hx I1 r q
end

/-! ### keywords -/
/-- the values of the keywords, from the left -/
def PK (X : Cx) (kws : List Keyword) (t : TA) : Prop :=
  ∀ (pos : Pos) (pins : List (Addr × Obj)) (s : Shared) (σ : St) (H : Hp) (Q : List V → Hp → Prop), Inv X pins σ H s → t σ H Q → wpAny (model X.prog X.w) X.A (evalAll ((backToKw pos (keywordEach kws X.env)).map (·.2))) (AP X pins σ Q) X.xe s
section
variable {X : Cx} {CX : CXT} {k : Nat} {f C : Addr} {fd : FuncData} {ps ks : List Str} {sp : Sp} {E : XK} {x m : Str} {p pos apos kpos : Pos} {e o : Expr} {es : List Expr} {kws : List Keyword} {te ta : TE} {t tk : TA} {nm : Option Str}
theorem pk_nil : PK X [] tNil := fun _ _ _ _ H Q I h => wpAny_evalAll_nil ⟨[], H, I, .nil, h⟩
theorem pk_cons (ha : PE X e te) (hr : PK X kws t) : PK X (⟨nm, e, kpos⟩ :: kws) (tCons te t) := by
  intro pos pins s σ H Q I h
  show wpAny _ _ (evalAll ((do let v ← eval e X.env; standAt pos; pure v) :: (backToKw pos (keywordEach kws X.env)).map (·.2))) _ _ s
  refine wpAny_evalAll_cons (wpAny_bind (thn (ha pins s σ H _ I h) fun u s1 ⟨x, H1, I1, r1, q1⟩ => wpAny_bind (wpAny_standAt (wpAny_pure ?_))))
  exact thn (hr pos pins s1 σ H1 _ I1 q1) fun us s2 ⟨xs, H2, I2, r2, q2⟩ => ⟨x :: xs, H2, I2, .cons r1 r2, q2⟩

variable {g : List Value → List Value → List Value} {gV : List V → List V → List V}
end

/-! ### a def's body keeps its promise -/
/-- names: the parameters first -/
structure FnScope (N P : List Str) (sc : Scope) : Prop where
  kind : sc.kind = .function
  co : sc.isCoroutine = false
  gen : sc.isGenerator = false
  nd : N.Nodup
  pre : N.take P.length = P
  par : ∀ x ∈ P, sc.names.lookup x = some .local ∨ sc.names.lookup x = some .cell
  nofree : ∀ y ∈ sc.names, y.2 ≠ .free

theorem bindL_out {kindOf : Str → Option NameKind} {x : Str} : ∀ {binds : List (Str × Value)} {m : Str → Option Value}, (∀ v, (x, v) ∉ binds) → bindL kindOf binds m x = m x
  | [], _, _ => rfl
  | (n, v) :: r, m, h => by
    unfold bindL
    rw [bindL_out fun w hw => h w (List.mem_cons_of_mem _ hw)]
    split
    · have : x ≠ n := by rintro rfl; exact h v List.mem_cons_self
      simp [this]
    · rfl
theorem bindC_out {kindOf : Str → Option NameKind} {x : Str} : ∀ {binds : List (Str × Value)} {m : Str → Option Value}, (∀ v, (x, v) ∉ binds) → bindC kindOf binds m x = m x
  | [], _, _ => rfl
  | (n, v) :: r, m, h => by
    unfold bindC
    rw [bindC_out fun w hw => h w (List.mem_cons_of_mem _ hw)]
    split
    · rfl
    · have : x ≠ n := by rintro rfl; exact h v List.mem_cons_self
      simp [this]
theorem bindL_get {kindOf : Str → Option NameKind} {x : Str} {v : Value} : ∀ {P : List Str} {vs : List Value} {i : Nat} {m : Str → Option Value}, P.Nodup → P[i]? = some x → vs[i]? = some v → kindOf x = some .local →
    bindL kindOf (P.zip vs) m x = some v
  | [], _, _, _, _, h, _, _ => by simp at h
  | _ :: _, [], _, _, _, _, h, _ => by simp at h
  | p :: P, w :: vs, 0, m, nd, h1, h2, hk => by
    simp at h1 h2; subst h1; subst h2
    show bindL kindOf ((p, w) :: P.zip vs) m p = _
    unfold bindL
    rw [bindL_out fun v hv => (List.nodup_cons.mp nd).1 (List.of_mem_zip hv).1, if_pos hk]
    simp
  | p :: P, w :: vs, i + 1, m, nd, h1, h2, hk => by
    show bindL kindOf ((p, w) :: P.zip vs) m x = _
    unfold bindL
    exact bindL_get (i := i) (List.nodup_cons.mp nd).2 (by simpa using h1) (by simpa using h2) hk
theorem bindC_get {kindOf : Str → Option NameKind} {x : Str} {v : Value} : ∀ {P : List Str} {vs : List Value} {i : Nat} {m : Str → Option Value}, P.Nodup → P[i]? = some x → vs[i]? = some v → kindOf x ≠ some .local →
    bindC kindOf (P.zip vs) m x = some v
  | [], _, _, _, _, h, _, _ => by simp at h
  | _ :: _, [], _, _, _, _, h, _ => by simp at h
  | p :: P, w :: vs, 0, m, nd, h1, h2, hk => by
    simp at h1 h2; subst h1; subst h2
    show bindC kindOf ((p, w) :: P.zip vs) m p = _
    unfold bindC
    rw [bindC_out fun v hv => (List.nodup_cons.mp nd).1 (List.of_mem_zip hv).1, if_neg hk]
    simp
  | p :: P, w :: vs, i + 1, m, nd, h1, h2, hk => by
    show bindC kindOf ((p, w) :: P.zip vs) m x = _
    unfold bindC
    exact bindC_get (i := i) (List.nodup_cons.mp nd).2 (by simpa using h1) (by simpa using h2) hk

/-- the names' values at the entry -/
def start (N : List Str) (vs : List V) : St := vs.map some ++ List.replicate (N.length - vs.length) none

/-- the context of a def's body, at its entry; an exception leaves the frame, then lies as CX says -/
def cxOf (CX : CXT) (P : Program) (w : World) (K : PySem.W.Frag) (mg : Str → Option Value) (base : Heap) (N : List Str) (qual : Str) (scope : Scope) (f : Addr) (cd : Value) (A : Around) (outer : List Env) (s : Shared) (H : Hp) (E : XK) : Cx where
  prog := P
  w := w
  K := K
  mg := mg
  base := base
  A := A.deeper (envOfC qual scope s.heap.objs.size f cd)
  N := N
  s₀ := s
  H₀ := H
  env := envOfC qual scope s.heap.objs.size f cd
  outer := outer
  stack := envOfC qual scope s.heap.objs.size f cd :: outer
  ex := []
  calm := true
  fn := fun _ => true
  pn := []
  xe := fun e s' => wpAny (model P w) (A.deeper (envOfC qual scope s.heap.objs.size f cd)) (leaving (envOfC qual scope s.heap.objs.size f cd) e) (fun _ s'' => CX outer H s E e s'') (fun e' s'' => CX outer H s E e' s'') s'

theorem cell_has {sc : Scope} {n : Nat} {x : Str} (h : sc.names.lookup x = some .cell) : ∃ c, (cellsFrom n sc.names []).lookup x = some c := by
  have q := PySem.W.cellsFrom_some sc.names n [] (.inl h)
  exact Option.isSome_iff_exists.mp q

theorem inv_start {CX : CXT} {P : Program} {w : World} {K : PySem.W.Frag} {mg : Str → Option Value} {base : Heap} {N ps : List Str} {qual : Str} {scope : Scope} {f : Addr} {cd : Value} {A : Around} {outer : List Env} {s s1 : Shared} {H : Hp} {E : XK} {us : List Value} {vs : List V}
    (S : FnScope N ps scope) (hd : A.handled = none) (e0 : Env0 P w K mg base A outer s H) (hl : vs.length = ps.length) (r : Vals vs us)
    (x : InCallC s s.heap.objs.size (bindL (envOfC qual scope s.heap.objs.size f cd).kindOf (ps.zip us) fun _ => none) (cellsFrom (s.heap.objs.size + 1) scope.names []) (bindC (envOfC qual scope s.heap.objs.size f cd).kindOf (ps.zip us) fun _ => none) s1) :
    Inv (cxOf CX P w K mg base N qual scope f cd A outer s H E) [] (start N vs) H s1 := by
  have hpl : ps.length ≤ N.length := by have := congrArg List.length S.pre; rw [List.length_take] at this; omega
  obtain ⟨h1, tk, rfl, hk⟩ := x.done
  have noA : ∀ b : Addr, b ∉ (cxOf CX P w K mg base N qual scope f cd A outer s H E).ex := fun b z => absurd (show b ∈ ([] : List Addr) from z) (by simp)
  refine ⟨⟨e0.mod, S.kind, rfl, rfl, Nat.le_refl _, fun y z c h1 h2 => ?_, fun y hy => ?_, fun y c _ h => ?_, fun _ => hd, Around.frames_deeper e0.frames, .inr ⟨rfl, rfl⟩, fun b z => absurd z (noA b), e0.bs, e0.bsz, fun b _ _ => noA b, fun b z => absurd z (noA b), e0.funs, e0.frf⟩,
    rfl, e0.bare, Un.kept hk, ⟨_, x.toInCall.ns, fun i y v h1 h2 h3 => ?_⟩, fun y c h => ⟨_, x.cell y c h⟩, e0.hok.fresh (Nat.le_refl _), fun y c h => ?_, fun p hp => absurd (show p ∈ ([] : List (Addr × Obj)) from hp) (by simp), e0.hok.kept hk, ?_⟩
  · exact name_of_addr x.apart (PySem.mem_of_lookup h1) (PySem.mem_of_lookup h2)
  · have hy : scope.names.lookup y = some .cell ∨ scope.names.lookup y = some .free := hy
    rcases hy with hy | hy
    · exact cell_has hy
    · exact absurd rfl (S.nofree _ (PySem.mem_of_lookup hy))
  · exact Nat.le_of_lt (x.above y c (PySem.mem_of_lookup h))
  · have hi : i < vs.length := by
      unfold start at h2
      by_cases hi : i < vs.length
      · exact hi
      · rw [List.getElem?_append_right (by simpa using hi)] at h2
        rw [List.getElem?_replicate] at h2
        split at h2 <;> cases h2
    have ha : vs[i]? = some v := by
      unfold start at h2
      rw [List.getElem?_append_left (by simpa using hi), List.getElem?_map] at h2
      cases e : vs[i]? with
      | none => rw [e] at h2; cases h2
      | some a => rw [e] at h2; cases h2; rfl
    obtain ⟨u, hu, rv⟩ := r.get ha
    have hp : ps[i]? = some y := by
      rw [← S.pre, List.getElem?_take_of_lt (by omega)]; exact h1
    have ndP : ps.Nodup := by rw [← S.pre]; exact S.nd.sublist (List.take_sublist _ _)
    refine ⟨u, rv, ?_⟩
    rcases S.par y (List.mem_of_getElem? hp) with k | k
    · exact .inl ⟨k, bindL_get ndP hp hu k⟩
    · obtain ⟨c, e⟩ := cell_has (n := s.heap.objs.size + 1) k
      refine .inr ⟨.inl k, c, e, ?_⟩
      have q := x.cell y c e
      rw [bindC_get ndP hp hu (by show scope.names.lookup y ≠ _; rw [k]; decide)] at q
      exact q
  · exact e0.hok.fresh (Nat.le_of_lt (x.above y c (PySem.mem_of_lookup h)))
  · unfold start
    show _ = N.length
    rw [List.length_append, List.length_map, List.length_replicate]
    omega

/-- THE RULE: a def (or a method) of the text, by its body. The body's reading t is chosen for each entry; it is run at the parameters' values -/
theorem fn_of {CX : CXT} {P : Program} {w : World} {K : PySem.W.Frag} {mg : Str → Option Value} {base : Heap} {k : Nat} {f : Addr} {name qual : Str} {params : Arguments} {body : List Stmt} {scope : Scope} {dV kV doc pm cdv ct oc : Value} {an od : Option Addr}
    {osl : Array (Option Value)} {N ps : List Str} {sp : Sp} (lk : K.lookup f = some ⟨oc, od, .func (PySem.W.fnOf name qual params body scope dV kV doc pm an cdv ct), osl⟩) (hcd : PySem.W.codeIn K cdv qual = true) (S : FnScope N ps scope)
    (len : ∀ vs H Q E, sp vs H Q E → vs.length = ps.length)
    (hbody : ∀ (A : Around) (outer : List Env) (s : Shared) (H : Hp) (vs : List V) (Q : VK) (E : XK), Room k (A.deeper (envOfC qual scope s.heap.objs.size f cdv)) → sp vs H Q E →
      ∃ t, PSs (cxOf CX P w K mg base N qual scope f cdv A outer s H E) body t ∧ t { nx := fun _ H' => Q .non H', rt := Q } (start N vs) H) :
    FnOk P w K mg base CX (k + 1) f (PySem.W.fnOf name qual params body scope dV kV doc pm an cdv ct) ps sp := by
  refine ⟨len, fun A outer s H args us vs Q E hr e0 hb r hsp => ?_⟩
  have hl := len _ _ _ _ hsp
  have KX : K.In s.heap := e0.mod.kin.keeps fun b o e => (e0.bs b o e).1
  have lim : s.heap.NoLimit := e0.mod.nolimit.keeps fun b o e => (e0.bs b o e).1
  have hkind : ∀ y ∈ ps.zip us, scope.names.lookup y.1 = some .local ∨ (scope.names.lookup y.1 = some .cell ∧ ((cellsFrom (s.heap.objs.size + 1) scope.names []).lookup y.1).isSome = true) := fun ⟨n, v⟩ hy => by
    rcases S.par n (List.of_mem_zip hy).1 with q | q
    · exact .inl q
    · exact .inr ⟨q, PySem.W.cellsFrom_some _ _ _ (.inl q)⟩
  refine codeAny_call_function hr.depth (KX _ _ lk) rfl S.co S.gen rfl (PySem.W.codeRec_of KX hcd) (hb _ _ _ _ ?_)
  refine wpAny_newFunctionEnv_cells S.kind hkind fun env he s1 x => ?_
  subst he
  refine ⟨lim.keeps x.toInCall.keep, codeAny_func ?_⟩
  obtain ⟨t, ht, hq⟩ := hbody A outer s H vs Q E (hr.deeper _) hsp
  have I : Inv (cxOf CX P w K mg base N qual scope f cdv A outer s H E) [] (start N vs) H s1 := inv_start S hr.hd e0 hl r x
  refine wpAny_mono (ht [] s1 (start N vs) H _ I hq) (fun fl s' hs => ?_) fun e s' hs => hs
  have fin : ∀ {σ' : St} {H' : Hp} {v : V} {u : Value}, Inv (cxOf CX P w K mg base N qual scope f cdv A outer s H E) [] σ' H' s' → RelV v u → Q v H' → CE outer P w H s Q u s' :=
    fun {σ' H' v u} J rv q => ⟨v, H', J.os, J.bare, J.base, J.hok, rv, q⟩
  cases fl with
  | ret u =>
    obtain ⟨v, σ', H', J, rv, q⟩ := hs
    exact fin J rv q
  | next =>
    obtain ⟨σ', H', J, q⟩ := hs
    exact fin (v := V.non) (u := Value.none) J rfl q
  | brk =>
    obtain ⟨_, _, _, q⟩ := hs
    exact False.elim q
  | cont =>
    obtain ⟨_, _, _, q⟩ := hs
    exact False.elim q
end L2

namespace L2
open PySem PySem.Spec PyProof.Rows
section
variable {X : Cx} {x : Str} {p pos : Pos} {e : Expr} {es : List Expr} {t : TA} {id T : String} {r : List V → Hp → VK → Prop}

def tCB (r : List V → Hp → VK → Prop) (t : TA) : TE := fun σ H Q => t σ H fun vs H1 => r vs H1 Q
/-- f(e, ..), f a built-in function -/
theorem pe_callB (hc : CallR X (.builtin id) r) (hg : Gl X x) (hm : X.mg x = none) (hv : bootBuiltins x = some (.builtin id)) (ha : PA X (e :: es) t) (hn : x ≠ "__name__" := by decide) (hdb : (x == ("__debug__" : Str)) = false := by decide)
    (he : starEach (e :: es) X.env = (false, eval e X.env) :: starEach es X.env := by rfl) (hpl : (backTo pos (starEach es X.env)).any (·.1) = false := by rfl) : PE X (.Call (.Name x p) (e :: es) [] pos) (tCB r t) := by
  intro pins s σ H Q I h
  refine wpAny_Call_Name_kw (ld_blt I hg hm hv ?_ hn hdb)
  exact PyProof.Rows.callWith_builtin1 (thn (ha pos pins s σ H _ I h) fun us s1 ⟨vs, H1, I1, r1, q1⟩ => hc pins s1 σ H1 vs us Q I1 r1 q1) he hpl
/-- T(e, ..), T a built-in type -/
theorem pe_callTy (hc : CallR X (.type T) r) (hg : Gl X x) (hm : X.mg x = none) (hv : bootBuiltins x = some (.type T)) (ha : PA X (e :: es) t) (hn : x ≠ "__name__" := by decide) (hdb : (x == ("__debug__" : Str)) = false := by decide)
    (he : starEach (e :: es) X.env = (false, eval e X.env) :: starEach es X.env := by rfl) (hpl : (backTo pos (starEach es X.env)).any (·.1) = false := by rfl) : PE X (.Call (.Name x p) (e :: es) [] pos) (tCB r t) := by
  intro pins s σ H Q I h
  refine wpAny_Call_Name_kw (ld_blt I hg hm hv ?_ hn hdb)
  exact PyProof.Rows.callWith_type1 (thn (ha pos pins s σ H _ I h) fun us s1 ⟨vs, H1, I1, r1, q1⟩ => hc pins s1 σ H1 vs us Q I1 r1 q1) he hpl
end
end L2

namespace HT
open PySem PyProof.Rows

section
open PySem.SeqAt
open PySem.AutoSeq1 (wpAny_loadPart')
open PySem.MeetsSeq PySem.MeetsSeq2 PySem.MeetsSeq3

end

section
variable {prog : Program} {w : World} {A : Around} {E : Value → Shared → Prop} {s : Shared}

/-- t + u, t not empty -/
theorem cat_tup {t b : Addr} {vs ws : List Value} {Q : Value → Shared → Prop} (ht : IsTup s.heap t vs.toArray) (hb : IsTup s.heap b ws.toArray) (hv : vs ≠ [])
    (h1 : ws = [] → Q (.ref t) s) (h2 : ws ≠ [] → Q (.ref s.heap.objs.size) { s with heap := s.heap.push { cls := .type "tuple", data := .seq (vs ++ ws).toArray } })
    (hsz : vs.length + ws.length ≤ sizeLine) : wpAny (model prog w) A (binaryOp .Add (.ref t) (.ref b)) Q E s := by
  obtain ⟨⟨cls, dd, data, sl⟩, ho, hc, n, hd⟩ := id ht
  obtain ⟨⟨cls2, dd2, data2, sl2⟩, ho2, hc2, n2, hd2⟩ := id hb
  simp only at hc hd hc2 hd2
  subst hc hd hc2 hd2
  have e : vs.toArray ++ ws.toArray = (vs ++ ws).toArray := by simp
  by_cases hw : ws = []
  · exact concat_meets ⟨_, ho, rfl⟩ ⟨_, ho2, rfl⟩ noFill_tuple_add seq_tuple_add PySem.F.slot_tuple_add PySem.F.entry_tuple_add (PySem.F.args_tuple_add_2 _ _)
      (tuple_addW1 t b vs.toArray ws.toArray n n2 dd dd2 sl sl2 (by simpa using hv) (by simp [hw])) ⟨ho, ho2, h1 hw⟩
  · refine concat_meets ⟨_, ho, rfl⟩ ⟨_, ho2, rfl⟩ noFill_tuple_add seq_tuple_add PySem.F.slot_tuple_add PySem.F.entry_tuple_add (PySem.F.args_tuple_add_2 _ _)
      (tuple_addW2 t b vs.toArray ws.toArray n n2 dd dd2 sl sl2 (by simpa using hv) (by simpa using hw) (by rw [List.size_toArray, List.size_toArray]; exact hsz)) ⟨ho, ho2, ?_⟩
    rw [e]
    exact h2 hw

/-! ### t[a:b], not the whole -/
/-- a slice's bound as a place among n (d where it is left out) -/
def sIx (n d : Nat) : Option Int → Nat
  | none => d
  | some v => if v < 0 then (v + (n : Int)).toNat else min v.toNat n
theorem sIx_none (n d : Nat) : sIx n d none = d := rfl
theorem sIx_nat (n d k : Nat) : sIx n d (some (k : Int)) = min k n := by
  show (if (k : Int) < 0 then ((k : Int) + (n : Int)).toNat else min (k : Int).toNat n) = min k n
  rw [if_neg (by omega), Int.toNat_natCast]
theorem sIx_le (n d : Nat) (hd : d ≤ n) (o : Option Int) : sIx n d o ≤ n := by
  cases o with
  | none => exact hd
  | some v =>
    show (if v < 0 then (v + (n : Int)).toNat else min v.toNat n) ≤ n
    by_cases hv : v < 0
    · rw [if_pos hv]; omega
    · rw [if_neg hv]; exact Nat.min_le_right _ _
theorem clip_eq (v : Int) (n d : Nat) : (if v < 0 then max (v + (n : Int)) 0 else min v (n : Int)) = ((sIx n d (some v) : Nat) : Int) := by
  show (if v < 0 then max (v + (n : Int)) 0 else min v (n : Int)) = (((if v < 0 then (v + (n : Int)).toNat else min v.toNat n) : Nat) : Int)
  by_cases hv : v < 0
  · simp only [if_pos hv]; omega
  · simp only [if_neg hv]; omega
theorem adjust_gen (lo hi : Option Int) (n : Nat) : Builtin.Slice.sliceAdjust lo hi 1 (n : Int) = (((sIx n 0 lo : Nat) : Int), ((sIx n n hi : Nat) : Int)) := by
  have h1 : ¬ ((1 : Int) < 0) := by omega
  unfold Builtin.Slice.sliceAdjust
  simp only [h1, if_false]
  refine Prod.ext ?_ ?_
  · cases lo with
    | none => rfl
    | some v => exact clip_eq v n 0
  · cases hi with
    | none => rfl
    | some v => exact clip_eq v n n
theorem places_gen (i j : Nat) : Builtin.Slice.slicePlaces (i : Int) (j : Int) 1 = j - i := by
  unfold Builtin.Slice.slicePlaces
  have h1 : (1 : Int) > 0 := by omega
  simp only [h1, if_true, Int.ediv_one]
  split <;> omega
theorem slicePart_ {v : Value} {o : Option Int} {Q : Option Int → Shared → Prop} (p : IsPart v o) (h : Q o s) : wpAny (model prog w) A (Builtin.Slice.slicePartIndex v) Q E s := by
  cases p with
  | none => exact slicePart_none h
  | int i t => exact slicePart_int h
theorem sliceApplied_gen {sl : Addr} {vl vu : Value} {lo hi : Option Int} {n : Nat} {Q : Int × Int × Nat → Shared → Prop} (hs : s.heap.IsSliceOf sl vl vu .none) (pl : IsPart vl lo) (pu : IsPart vu hi)
    (h : Q (((sIx n 0 lo : Nat) : Int), 1, sIx n n hi - sIx n 0 lo) s) : wpAny (model prog w) A (Builtin.Slice.sliceApplied (.ref sl) (pure (n : Int))) Q E s := by
  obtain ⟨os, hos, hcs, hds⟩ := id hs
  unfold Builtin.Slice.sliceApplied Builtin.Slice.sliceFields
  refine wpAny_bind (wpAny_bind (wpAny_field hos hds (x := vl) rfl (wpAny_bind (wpAny_field hos hds (x := vu) rfl (wpAny_bind (wpAny_field hos hds (x := .none) rfl (wpAny_pure ?_)))))))
  refine wpAny_bind (slicePart_none ?_)
  show wpAny _ _ (if ((1 : Int) == 0) = true then _ else _) _ _ s
  rw [if_neg (by decide)]
  refine wpAny_bind (slicePart_ pl (wpAny_bind (slicePart_ pu (wpAny_bind (wpAny_pure ?_)))))
  show wpAny _ _ (match Builtin.Slice.sliceAdjust lo hi 1 (n : Int) with | (lo, hi) => pure (lo, (1 : Int), Builtin.Slice.slicePlaces lo hi 1)) _ _ s
  rw [adjust_gen lo hi n]
  show wpAny _ _ (pure (((sIx n 0 lo : Nat) : Int), (1 : Int), Builtin.Slice.slicePlaces ((sIx n 0 lo : Nat) : Int) ((sIx n n hi : Nat) : Int) 1)) _ _ s
  rw [places_gen]
  exact wpAny_pure h
theorem pick_gen (xs : Array Value) (i k : Nat) : ((List.range k).filterMap fun (m : Nat) => xs[((i : Int) + (m : Int) * 1).toNat]?).toArray = ((xs.toList.drop i).take k).toArray := by
  have e : (fun (m : Nat) => xs[((i : Int) + (m : Int) * 1).toNat]?) = fun m => xs[i + m]? := by
    funext m
    have : ((i : Int) + (m : Int) * 1).toNat = i + m := by omega
    rw [this]
  rw [e]
  have := pick_run xs i k
  rw [List.filterMap_map] at this
  have e2 : ((fun x => xs[x]?) ∘ fun x => i + x) = fun m => xs[i + m]? := rfl
  rw [e2] at this
  rw [this]

theorem getItem_tuple_cut {t sl : Addr} {items : Array Value} {vl vu : Value} {lo hi : Option Int} {Q : Value → Shared → Prop} (ht : IsTup s.heap t items) (hs : s.heap.IsSliceOf sl vl vu .none) (pl : IsPart vl lo) (pu : IsPart vu hi)
    (hw : ¬ (sIx items.size 0 lo = 0 ∧ sIx items.size items.size hi = items.size))
    (h : Q (.ref s.heap.objs.size) { s with heap := s.heap.push { cls := .type "tuple", data := .seq ((items.toList.drop (sIx items.size 0 lo)).take (sIx items.size items.size hi - sIx items.size 0 lo)).toArray } })
    (hsz : items.size ≤ sizeLine) : wpAny (model prog w) A (getItem (.ref t) (.ref sl)) Q E s := by
  have htake : sizeOk (.seq ((items.toList.drop (sIx items.size 0 lo)).take (sIx items.size items.size hi - sIx items.size 0 lo)).toArray) := by
    show ((items.toList.drop (sIx items.size 0 lo)).take (sIx items.size items.size hi - sIx items.size 0 lo)).toArray.size ≤ sizeLine
    rw [List.size_toArray, List.length_take, List.length_drop, Array.length_toList]
    omega
  have hj : sIx items.size items.size hi ≤ items.size := sIx_le _ _ (Nat.le_refl _) hi
  obtain ⟨os, hos, hcs, hds⟩ := id hs
  have hTs : s.TypeIs (.ref sl) "slice" := ⟨os, hos, hcs⟩
  unfold getItem
  try with_reducible refine wpAny_holding ?_
  first | refine wpAny_bind (wpAny_pure ?_) | skip
  refine wpAny_bind (wpAny_sequenceKey ht.typeIs (by decide) ?_)
  refine wpAny_bind (wpAny_callSpecial?_slot (name := Str.ofString "__getitem__") ht.typeIs PyProof.Rows.slot_tuple_getitem
    (wpAny_call_entry PyProof.Rows.slot_tuple_getitem ht.typeIs entry_tuple_getitem ?_ (args_tuple_getitem _ _)))
  show wpAny _ _ (Builtin.Tuple.tupleItemsOf (.ref t) >>= _) _ _ s
  refine wpAny_bind (tupleItemsOf_ ht ?_)
  refine wpAny_bind (wpAny_typeOf hTs ?_)
  rw [if_pos (by decide)]
  refine wpAny_bind (sliceApplied_gen hs pl pu ?_)
  have hno : ¬ ((((sIx items.size 0 lo : Nat) : Int) == 0 && (1 : Int) == 1 && (sIx items.size items.size hi - sIx items.size 0 lo) == items.size) = true) := by
    intro q
    rw [Bool.and_eq_true, Bool.and_eq_true] at q
    have q1 : ((sIx items.size 0 lo : Nat) : Int) = 0 := eq_of_beq q.1.1
    have q2 : sIx items.size items.size hi - sIx items.size 0 lo = items.size := eq_of_beq q.2
    exact hw ⟨by omega, by omega⟩
  show wpAny _ _ (if (((sIx items.size 0 lo : Nat) : Int) == 0 && (1 : Int) == 1 && (sIx items.size items.size hi - sIx items.size 0 lo) == items.size) = true then _ else _) _ _ s
  rw [if_neg hno, pick_gen]
  first
    | exact wpAny_bind (m := Builtin.Tuple.tupleExact _) (wpAny_newObj_type (wpAny_pure ⟨_, rfl, wpAny_pure h⟩) htake)
    | exact wpAny_bind (m := Builtin.Tuple.tupleExact _) (wpAny_newObj_type (wpAny_bind (wpAny_pure (wpAny_pure ⟨_, rfl, wpAny_pure h⟩))) htake)
    | exact wpAny_bind (wpAny_bind (m := Builtin.Tuple.tupleExact _) (wpAny_newObj_type (wpAny_pure (wpAny_pure ⟨_, rfl, wpAny_pure h⟩)) htake))
    | exact wpAny_bind (wpAny_bind (m := Builtin.Tuple.tupleExact _) (wpAny_newObj_type (wpAny_pure ⟨_, rfl, wpAny_pure h⟩) htake))
end
end HT

namespace L2
open PySem PySem.Spec PyProof.Rows

/-! ### the parts of a slice -/
abbrev TO := St → Hp → (Option Int → Hp → Prop) → Prop
/-- a slice's part (left out, or an int) -/
def PO (X : Cx) (e : Option Expr) (t : TO) : Prop :=
  ∀ (pins : List (Addr × Obj)) (s : Shared) (σ : St) (H : Hp) (Q : Option Int → Hp → Prop), Inv X pins σ H s → t σ H Q →
    wpAny (model X.prog X.w) X.A (evalPart e X.env) (fun u s' => ∃ o H', Inv X pins σ H' s' ∧ IsPart u o ∧ Q o H') X.xe s
def tNoPart : TO := fun _ H Q => Q none H
def tPart (t : TE) : TO := fun σ H Q => t σ H fun x H1 => ∃ i, x = .int i ∧ Q (some i) H1

section
variable {X : Cx} {e : Expr} {te : TE} {lo hi : Option Expr} {tl th : TO} {pos p2 : Pos}

theorem po_none : PO X none tNoPart := by
  intro pins s σ H Q I h
  rw [evalPart_none]
  exact wpAny_pure ⟨none, H, I, .none, h⟩
theorem po_some (h : PE X e te) : PO X (some e) (tPart te) := by
  intro pins s σ H Q I hw
  rw [evalPart_some]
  refine thn (h pins s σ H _ I hw) fun u s1 ⟨x, H1, I1, r1, q1⟩ => ?_
  obtain ⟨i, rfl, q⟩ := q1
  obtain ⟨t, rfl⟩ := r1
  exact ⟨some i, H1, I1, .int i t, q⟩

/-- what a slice of a value is, by values: the slice object stands at sl -/
def SlR (X : Cx) (r : V → Option Int → Option Int → Hp → VK → Prop) : Prop :=
  ∀ (pins : List (Addr × Obj)) (s : Shared) (σ : St) (H : Hp) (x : V) (v vl vu : Value) (lo hi : Option Int) (sl : Addr) (Q : VK), Inv X pins σ H s → RelV x v → s.heap.IsSliceOf sl vl vu .none → IsPart vl lo → IsPart vu hi → r x lo hi H Q →
    ∃ T id, typeLookup (.type T) "__getitem__" = pure (some (.builtin id)) ∧ s.TypeIs v T ∧ wpAny (model X.prog X.w) X.A (getItem v (.ref sl)) (EP X pins σ Q) X.xe s
def tSl (r : V → Option Int → Option Int → Hp → VK → Prop) (te : TE) (tl th : TO) : TE := fun σ H Q => te σ H fun x H1 => tl σ H1 fun l H2 => th σ H2 fun u H3 => r x l u H3 Q
/-- a[lo:hi], any a -/
theorem pe_slice {r : V → Option Int → Option Int → Hp → VK → Prop} (hr : SlR X r) (he : PE X e te) (hl : PO X lo tl) (hu : PO X hi th) : PE X (.Subscript e (.Slice lo hi none p2) pos) (tSl r te tl th) := by
  intro pins s σ H Q I h
  refine Subscript_ (thn (he pins s σ H _ I h) fun v s1 ⟨x, H1, I1, r1, q1⟩ => ?_)
  refine wpAny_Slice (thn (hl pins s1 σ H1 _ I1 q1) fun vl s2 ⟨l, H2, I2, pl, q2⟩ => thn (hu pins s2 σ H2 _ I2 q2) fun vu s3 ⟨u, H3, I3, pu, q3⟩ => ?_)
  rw [evalPart_none]
  refine wpAny_pure ?_
  have I4 : Inv X pins σ H3 { s3 with heap := s3.heap.push { cls := .type "slice", data := .fields #[vl, vu, .none] } } := I3.kept (t' := s3.toks) fun b ob q => Heap.get?_push_of_some _ q
  obtain ⟨T, id, hT, ht, hg⟩ := hr pins { s3 with heap := s3.heap.push { cls := .type "slice", data := .fields #[vl, vu, .none] } } σ H3 x v vl vu l u s3.heap.objs.size Q I4 r1 (Heap.IsSliceOf.new ..) pl pu q3
  show wpAny (model X.prog X.w) X.A (subscriptTail e (.Slice lo hi none p2) v (.ref s3.heap.objs.size)) (EP X pins σ Q) X.xe { s3 with heap := s3.heap.push { cls := .type "slice", data := .fields #[vl, vu, .none] } }
  exact tail_any (ops := [.ref s3.heap.objs.size, v]) ht hT hg (by with_unfolding_all rfl)

/-- the items of xs[lo:hi] -/
def cutV (xs : List V) (lo hi : Option Int) : List V := (xs.drop (HT.sIx xs.length 0 lo)).take (HT.sIx xs.length xs.length hi - HT.sIx xs.length 0 lo)
theorem cutV_length (xs : List V) (lo hi : Option Int) : (cutV xs lo hi).length ≤ xs.length := by
  unfold cutV
  rw [List.length_take, List.length_drop]
  omega
/-- t[lo:hi], not the whole of it (the whole would be t itself) -/
def rSlT (K : PySem.W.Frag) : V → Option Int → Option Int → Hp → VK → Prop := fun x lo hi H Q => ∃ a xs, x = .ref a ∧ SqT K H a xs ∧
  ¬ (HT.sIx xs.length 0 lo = 0 ∧ HT.sIx xs.length xs.length hi = xs.length) ∧ ∀ p, H p = none → Q (.ref p) (upd H p (.tup (cutV xs lo hi)))
theorem sl_tup : SlR X (rSlT X.K) := by
  intro pins s σ H x v vl vu lo hi sl Q I rx hs pl pu h
  obtain ⟨a, xs, rfl, hx, hw, q⟩ := h
  cases rx
  obtain ⟨its, r, ht, hz⟩ := I.tuple hx
  have hlen : its.toArray.size = xs.length := by rw [List.size_toArray]; exact r.length.symm
  refine ⟨"tuple", _, PyProof.Rows.slot_tuple_getitem.lookup, ht.typeIs, ?_⟩
  refine HT.getItem_tuple_cut ht hs pl pu (by rw [hlen]; exact hw) ?_ (by rw [hlen]; exact hz)
  rw [hlen]
  refine ⟨.ref s.heap.objs.size, _, I.laid (t' := s.toks) (o := .tup (cutV xs lo hi)) (fun b ob q => Heap.get?_push_of_some _ q) (Nat.le_refl _) ?_, rfl, q _ (I.hok.fresh (Nat.le_refl _))⟩
  exact ⟨Nat.le_trans (cutV_length xs lo hi) hz, _, (r.drop (HT.sIx xs.length 0 lo)).take (HT.sIx xs.length xs.length hi - HT.sIx xs.length 0 lo), IsTup.new _ _⟩

/-! ### t < u, t + u -/
/-- t + u, t not empty: u empty gives t itself -/
def rCatT (K : PySem.W.Frag) : R2 := fun x y H Q => ∃ a b xs ys, x = .ref a ∧ y = .ref b ∧ SqT K H a xs ∧ SqT K H b ys ∧ xs ≠ [] ∧ xs.length + ys.length ≤ sizeLine ∧
  (ys = [] → Q (.ref a) H) ∧ (ys ≠ [] → ∀ p, H p = none → Q (.ref p) (upd H p (.tup (xs ++ ys))))
theorem Vals.nil_iff {xs : List V} {us : List Value} (r : Vals xs us) : us = [] ↔ xs = [] := by
  cases r with
  | nil => simp
  | cons _ _ => simp
theorem op_catT : OpR X (binaryOp .Add) (rCatT X.K) := by
  intro pins s σ H x y v u Q I rx ry h
  obtain ⟨a, b, xs, ys, rfl, rfl, ha, hb, hx, hz, q1, q2⟩ := h
  cases rx
  cases ry
  obtain ⟨its, r1, p1, _⟩ := I.tuple ha
  obtain ⟨its2, r2, p2, _⟩ := I.tuple hb
  refine HT.cat_tup p1 p2 (fun z => hx (r1.nil_iff.mp z)) (fun z => ⟨.ref a, H, I, rfl, q1 (r2.nil_iff.mp z)⟩) (fun z => ?_) (by rw [← r1.length, ← r2.length]; exact hz)
  refine ⟨.ref s.heap.objs.size, _, I.laid (t' := s.toks) (o := .tup (xs ++ ys)) (fun b ob q => Heap.get?_push_of_some _ q) (Nat.le_refl _) ?_, rfl, q2 (fun w => z (r2.nil_iff.mpr w)) _ (I.hok.fresh (Nat.le_refl _))⟩
  exact ⟨by rw [List.length_append]; exact hz, _, r1.append r2, IsTup.new _ _⟩
end
end L2

namespace L2
open PySem PySem.Spec PyProof.Rows

/-! ### places -/
/-- the place that an index of any sign means -/
def ixN (n : Nat) (i : Int) : Option Nat := if 0 ≤ i then (if i < n then some i.toNat else none) else if -(n : Int) ≤ i then some (i + n).toNat else none
def atI {α : Type} (xs : List α) (i : Int) : Option α := (ixN xs.length i).bind fun j => xs[j]?
theorem ixN_seq {n : Nat} {i : Int} {j : Nat} (h : ixN n i = some j) : seqIndex? i n = some j ∧ j < n ∧ -(n : Int) ≤ i ∧ i < n := by
  unfold ixN at h
  by_cases h0 : 0 ≤ i
  · rw [if_pos h0] at h
    by_cases h1 : i < n
    · rw [if_pos h1] at h
      have e : i.toNat = j := Option.some.inj h
      exact ⟨by rw [seqIndex_of h0 h1, e], by omega, by omega, h1⟩
    · rw [if_neg h1] at h; cases h
  · rw [if_neg h0] at h
    by_cases h1 : -(n : Int) ≤ i
    · rw [if_pos h1] at h
      have e : (i + n).toNat = j := Option.some.inj h
      exact ⟨by rw [seqIndex_neg (by omega) h1, e], by omega, h1, by omega⟩
    · rw [if_neg h1] at h; cases h
theorem atI_get {α : Type} {xs : List α} {i : Int} {v : α} (h : atI xs i = some v) : ∃ j, seqIndex? i xs.length = some j ∧ xs[j]? = some v ∧ j < xs.length ∧ -(xs.length : Int) ≤ i ∧ i < xs.length := by
  unfold atI at h
  cases e : ixN xs.length i with
  | none => rw [e] at h; cases h
  | some j =>
    rw [e] at h
    obtain ⟨h1, h2, h3, h4⟩ := ixN_seq e
    exact ⟨j, h1, h, h2, h3, h4⟩
theorem atI_nat {α : Type} {xs : List α} {j : Nat} {v : α} (h : xs[j]? = some v) : atI xs (j : Int) = some v := by
  have hj : j < xs.length := (List.getElem?_eq_some_iff.mp h).1
  have e : ixN xs.length (j : Int) = some j := by
    unfold ixN
    rw [if_pos (by omega), if_pos (by omega)]; simp
  unfold atI; rw [e]; exact h
theorem atI_last {α : Type} (xs : List α) (v : α) : atI (xs ++ [v]) (-1) = some v := by
  have hl : (xs ++ [v]).length = xs.length + 1 := by simp
  have e : ixN (xs ++ [v]).length (-1) = some xs.length := by
    unfold ixN
    rw [hl, if_neg (by decide), if_pos (by omega)]
    congr 1
    omega
  unfold atI
  rw [e]
  show (xs ++ [v])[xs.length]? = some v
  simp

/-! ### what may be subscripted -/
/-- what stands as an index of a plain subscript -/
def PlainIx (b : Expr) : Prop := ∀ o i, subscripted b false o i = operate [o, i] (getItem o i)
/-- a subscript by values -/
def IxR (X : Cx) (r : R2) : Prop :=
  ∀ (value slice : Expr) (pins : List (Addr × Obj)) (s : Shared) (σ : St) (H : Hp) (x y : V) (v u : Value) (Q : VK), Inv X pins σ H s → RelV x v → RelV y u → r x y H Q →
    subscripted slice false v u = operate [v, u] (getItem v u) → wpAny (model X.prog X.w) X.A (subscriptTail value slice v u) (EP X pins σ Q) X.xe s
/-- a call of a builtin's method by values: the receiver, the arguments -/
def MtR (X : Cx) (id : String) (r : V → List V → Hp → VK → Prop) : Prop :=
  ∀ (pins : List (Addr × Obj)) (s : Shared) (σ : St) (H : Hp) (x : V) (xs : List V) (v : Value) (us : List Value) (Q : VK), Inv X pins σ H s → RelV x v → Vals xs us → r x xs H Q →
    wpAny (model X.prog X.w) X.A (call (.builtin id) (v :: us)) (EP X pins σ Q) X.xe s
section
variable {X : Cx} {a b : Expr} {ta tb : TE} {pos : Pos}
theorem IxR.or {r r' : R2} (h : IxR X r) (h' : IxR X r') : IxR X (fun x y H Q => r x y H Q ∨ r' x y H Q) := by
  intro value slice pins s σ H x y v u Q I rx ry q hs
  rcases q with q | q
  · exact h value slice pins s σ H x y v u Q I rx ry q hs
  · exact h' value slice pins s σ H x y v u Q I rx ry q hs
/-- a[b] -/
theorem pe_ix {r : R2} (hr : IxR X r) (ha : PE X a ta) (hb : PE X b tb) (hs : PlainIx b) : PE X (.Subscript a b pos) (tOp r ta tb) := by
  intro pins s σ H Q I h
  exact Subscript_ (binT ha hb I h fun v u s2 x y H2 I2 rx ry q => hr a b pins s2 σ H2 x y v u Q I2 rx ry q (hs _ _))

def rIxL (K : PySem.W.Frag) : R2 := fun x y H Q => ∃ p xs i v, x = .ref p ∧ y = .int i ∧ SqL K H p xs ∧ atI xs i = some v ∧ Q v H
def rIxT (K : PySem.W.Frag) : R2 := fun x y H Q => ∃ p xs i v, x = .ref p ∧ y = .int i ∧ SqT K H p xs ∧ atI xs i = some v ∧ Q v H
def rIxS : R2 := fun x y H Q => ∃ z i c, x = .str z ∧ y = .int i ∧ z.length ≤ sizeLine ∧ atI z.cps.toList i = some c ∧ Q (.str ⟨#[c]⟩) H
theorem ix_list : IxR X (rIxL X.K) := by
  intro value slice pins s σ H x y v u Q I rx ry h hs
  obtain ⟨p, xs, i, z, rfl, rfl, hq, he, q⟩ := h
  cases rx
  obtain ⟨t, rfl⟩ := ry
  obtain ⟨its, r, pl, hz⟩ := I.list hq
  obtain ⟨j, h1, h2, h3, h4, h5⟩ := atI_get he
  obtain ⟨w, ew, rw'⟩ := r.get h2
  have hl := r.length
  have hn := line63
  have fin : EP X pins σ Q w s := ⟨z, H, I, rw', q⟩
  by_cases h0 : 0 ≤ i
  · have hj : i.toNat = j := by
      rw [seqIndex_of h0 h5] at h1
      exact Option.some.inj h1
    exact item_listR pl.isList h0 (by omega) (by rw [hj]; simpa using ew) fin hs
  · have hj : (i + (its.toArray.size : Int)).toNat = j := by
      rw [seqIndex_neg (by omega) h4] at h1
      rw [List.size_toArray, ← hl]
      exact Option.some.inj h1
    exact subscriptTail_builtinR (x := w) pl.isList.typeIs slot_list_getitem.lookup
      (wpAny_getItem_list_neg (Q := fun r s' => r = w ∧ EP X pins σ Q r s') pl.isList (by omega) (by rw [List.size_toArray] <;> omega) (by omega) (by rw [hj]; simpa using ew) ⟨rfl, fin⟩) hs
theorem ix_tup : IxR X (rIxT X.K) := by
  intro value slice pins s σ H x y v u Q I rx ry h hs
  obtain ⟨p, xs, i, z, rfl, rfl, hq, he, q⟩ := h
  cases rx
  obtain ⟨t, rfl⟩ := ry
  obtain ⟨its, r, pl, hz⟩ := I.tuple hq
  obtain ⟨j, h1, h2, h3, h4, h5⟩ := atI_get he
  obtain ⟨w, ew, rw'⟩ := r.get h2
  have hl := r.length
  have hn := line63
  have fin : EP X pins σ Q w s := ⟨z, H, I, rw', q⟩
  exact subscriptTail_builtinR (x := w) pl.typeIs slot_tuple_getitem.lookup
    (getItem_tuple (j := j) (Q := fun r s' => r = w ∧ EP X pins σ Q r s') pl (by omega) (by omega) (by rw [List.size_toArray, ← hl]; exact h1) (by simpa using ew) ⟨rfl, fin⟩) hs
theorem ix_str : IxR X rIxS := by
  intro value slice pins s σ H x y v u Q I rx ry h hs
  obtain ⟨z, i, c, rfl, rfl, hz, he, q⟩ := h
  obtain ⟨t, rfl⟩ := rx
  obtain ⟨t', rfl⟩ := ry
  obtain ⟨j, h1, h2, h3, h4, h5⟩ := atI_get he
  have hl : z.cps.toList.length = z.length := by simp [Str.length]
  rw [hl] at h1 h4 h5
  have hn := line63
  exact tail_any (typeIs_str s z t) slot_str_getitem.lookup (getItem_str (c := c) (by
    have e1 : decide (i < -(2 ^ 63 : Int)) = false := decide_eq_false (by omega)
    have e2 : decide (i ≥ 2 ^ 63) = false := decide_eq_false (by omega)
    rw [e1, e2, Bool.or_false]) (by rw [h1]; simpa using h2) ⟨.str ⟨#[c]⟩, H, I.tok _, ⟨_, rfl⟩, q⟩) hs
/-- list, tuple or str -/
def rIx (K : PySem.W.Frag) : R2 := fun x y H Q => rIxL K x y H Q ∨ rIxT K x y H Q ∨ rIxS x y H Q
theorem ix_seq : IxR X (rIx X.K) := ix_list.or (ix_tup.or ix_str)

/-! ### xs[i] = v, any sign -/
/-- the list's object behind a store -/
theorem mapSeq_set (its : List Value) (n j : Nat) (u : Value) : Obj.mapSeq (·.setIfInBounds j u) { cls := .type "list", data := .seq its.toArray n } = { cls := .type "list", data := .seq (its.set j u).toArray n } := by
  simp [Obj.mapSeq]
theorem Inv.lst {pins : List (Addr × Obj)} {σ : St} {H : Hp} {s : Shared} {p : Addr} {xs : List V} (I : Inv X pins σ H s) (h : H p = some (.lst xs)) :
    ∃ (its : List Value) (n : Nat), Vals xs its ∧ s.heap.get? p = some { cls := .type "list", data := .seq its.toArray n } ∧ xs.length ≤ sizeLine := by
  obtain ⟨z, its, n, r, e⟩ := I.hok p _ h
  exact ⟨its, n, r, e, z⟩
/-- the list at p is written by an update of its object -/
theorem Inv.lstUpd {pins : List (Addr × Obj)} {σ : St} {H : Hp} {s : Shared} {p : Addr} {xs ys : List V} {its its' : List Value} {n n' : Nat} {f : Obj → Obj} (I : Inv X pins σ H s) (h : H p = some (.lst xs))
    (ho : s.heap.get? p = some { cls := .type "list", data := .seq its.toArray n }) (hf : f { cls := .type "list", data := .seq its.toArray n } = { cls := .type "list", data := .seq its'.toArray n' }) (r : Vals ys its') (hz : ys.length ≤ sizeLine) (t : Nat) :
    Inv X pins σ (upd H p (.lst ys)) { s with heap := s.heap.update p f, toks := t } := by
  have e : (s.heap.update p f).get? p = some { cls := .type "list", data := .seq its'.toArray n' } := by
    rw [Heap.get?_update_self f ho (by rw [hf] <;> rfl), hf]
  refine I.write (x := p) (e := p) (by rw [h]; trivial) (.inl rfl) (fun b u hb q => (Heap.get?_update_other _ _ (Ne.symm hb)).trans q) ⟨_, e⟩ ?_
  exact ⟨hz, its', n', r, e⟩
def rSetL : V → V → V → Hp → (Hp → Prop) → Prop := fun o i v H Q => ∃ p xs k j, o = .ref p ∧ i = .int k ∧ H p = some (.lst xs) ∧ ixN xs.length k = some j ∧ Q (upd H p (.lst (xs.set j v)))
theorem set_list : PSet X rSetL := by
  intro pins s σ H o i v ov iv u Q I ro ri rv h
  obtain ⟨p, xs, k, j, rfl, rfl, hp, hj, q⟩ := h
  cases ro
  obtain ⟨t, rfl⟩ := ri
  obtain ⟨its, n, r, ho, hz⟩ := I.lst hp
  obtain ⟨h1, h2, h3, h4⟩ := ixN_seq hj
  have hl := r.length
  have hn := line63
  have I' : Inv X pins σ (upd H p (.lst (xs.set j v))) { s with heap := s.heap.update p (Obj.mapSeq (·.setIfInBounds j u)) } :=
    I.lstUpd hp ho (mapSeq_set its n j u) (r.set rv j) (by rw [List.length_set]; exact hz) s.toks
  by_cases h0 : 0 ≤ k
  · have hk : k.toNat = j := by
      rw [seqIndex_of h0 h4] at h1
      exact Option.some.inj h1
    exact PySem.W.ki_setAt ho h0 (by omega) (by rw [List.size_toArray, ← hl]; exact h4) (by rw [hk]; exact ⟨_, I', q⟩)
  · have hk : (k + (its.toArray.size : Int)).toNat = j := by
      rw [seqIndex_neg (by omega) h3] at h1
      rw [List.size_toArray, ← hl]
      exact Option.some.inj h1
    exact PySem.W.ki_setBack ho (by omega) (by rw [List.size_toArray, ← hl]; exact h3) (by omega) (by rw [hk]; exact ⟨_, I', q⟩)

/-! ### slices -/
/-! ### in, not in: flat items -/
def flatV : V → Bool
  | .non => true
  | .bl _ => true
  | .int _ => true
  | .str _ => true
  | _ => false
/-- == of flat values -/
def eqV : V → V → Bool
  | .non, .non => true
  | .bl a, .bl b => a == b
  | .bl a, .int b => (if a then 1 else 0) == b
  | .int a, .bl b => a == (if b then 1 else 0)
  | .int a, .int b => a == b
  | .str a, .str b => a == b
  | _, _ => false
theorem eqAt_V {A : Around} {s : Shared} {y x : V} {u v : Value} (ry : RelV y u) (rx : RelV x v) (fy : flatV y = true) (fx : flatV x = true) : SeqAt.EqAt A s u v (eqV y x) := by
  cases y with
  | non =>
    cases ry
    cases x with
    | non => cases rx; exact SeqAt.EqAt.same _
    | bl b => cases rx; exact SeqAt.EqAt.none_bool b
    | int b => obtain ⟨t, rfl⟩ := rx; exact SeqAt.EqAt.none_int b t
    | str b => obtain ⟨t, rfl⟩ := rx; exact SeqAt.EqAt.none_str b t
    | _ => exact absurd (show false = true from fx) Bool.false_ne_true
  | bl a =>
    cases ry
    cases x with
    | non => cases rx; exact SeqAt.EqAt.bool_none a
    | bl b => cases rx; exact SeqAt.EqAt.bool_bool a b
    | int b => obtain ⟨t, rfl⟩ := rx; exact SeqAt.EqAt.bool_int a b t
    | str b => obtain ⟨t, rfl⟩ := rx; exact SeqAt.EqAt.bool_str a b t
    | _ => exact absurd (show false = true from fx) Bool.false_ne_true
  | int a =>
    obtain ⟨t', rfl⟩ := ry
    cases x with
    | non => cases rx; exact SeqAt.EqAt.int_none a t'
    | bl b => cases rx; exact SeqAt.EqAt.int_bool a t' b
    | int b => obtain ⟨t, rfl⟩ := rx; exact SeqAt.EqAt.int_int a t' b t
    | str b => obtain ⟨t, rfl⟩ := rx; exact SeqAt.EqAt.int_str a t' b t
    | _ => exact absurd (show false = true from fx) Bool.false_ne_true
  | str a =>
    obtain ⟨t', rfl⟩ := ry
    cases x with
    | non => cases rx; exact SeqAt.EqAt.str_none a t'
    | bl b => cases rx; exact SeqAt.EqAt.str_bool a t' b
    | int b => obtain ⟨t, rfl⟩ := rx; exact SeqAt.EqAt.str_int a t' b t
    | str b => obtain ⟨t, rfl⟩ := rx; exact SeqAt.EqAt.str_str a t' b t
    | _ => exact absurd (show false = true from fx) Bool.false_ne_true
  | _ => exact absurd (show false = true from fy) Bool.false_ne_true
/-- the items' answers, read off the values (a value's own answer does not lean on its token) -/
def eqU (x : V) (u : Value) : Bool := match u with
  | .none => eqV .non x
  | .bool b => eqV (.bl b) x
  | .int i _ => eqV (.int i) x
  | .str z _ => eqV (.str z) x
  | _ => false
theorem eqU_of {x y : V} {u : Value} (r : RelV y u) (f : flatV y = true) : eqU x u = eqV y x := by
  cases y with
  | non => cases r; rfl
  | bl b => cases r; rfl
  | int i => obtain ⟨t, rfl⟩ := r; rfl
  | str z => obtain ⟨t, rfl⟩ := r; rfl
  | _ => exact absurd (show false = true from f) Bool.false_ne_true
theorem any_eqU {x : V} : ∀ {xs : List V} {us : List Value}, Vals xs us → xs.all flatV = true → us.any (eqU x) = xs.any fun y => eqV y x
  | _, _, .nil, _ => rfl
  | y :: xs, u :: us, .cons r t, f => by
    rw [List.all_cons, Bool.and_eq_true] at f
    rw [List.any_cons, List.any_cons, eqU_of r f.1, any_eqU t f.2]
theorem mem_eqAt {A : Around} {s : Shared} {x : V} {v : Value} (rx : RelV x v) (fx : flatV x = true) : ∀ {xs : List V} {us : List Value}, Vals xs us → xs.all flatV = true → ∀ u ∈ us, SeqAt.EqAt A s u v (eqU x u)
  | _, _, .nil, _ => fun u hu => by cases hu
  | y :: xs, u :: us, .cons r t, f => fun u' hu => by
    rw [List.all_cons, Bool.and_eq_true] at f
    rcases List.mem_cons.mp hu with rfl | hu
    · rw [eqU_of r f.1]; exact eqAt_V r rx f.1 fx
    · exact mem_eqAt rx fx t f.2 u' hu
def inV (x : V) (xs : List V) : Bool := xs.any fun y => eqV y x
/-- x in a list or tuple of flat items -/
def rIn (K : PySem.W.Frag) (neg : Bool) : R2 := fun x y H Q => ∃ p xs, y = .ref p ∧ (SqL K H p xs ∨ SqT K H p xs) ∧ flatV x = true ∧ xs.all flatV = true ∧ Q (.bl (if neg then !inV x xs else inV x xs)) H
theorem op_notIn_seq : OpR X (compareOp .NotIn) (rIn X.K true) := by
  intro pins s σ H x y v u Q I rx ry h
  obtain ⟨p, xs, rfl, hq, fx, fs, q⟩ := h
  cases ry
  rcases hq with hq | hq
  · obtain ⟨its, r, pl, hz⟩ := I.list hq
    refine SeqAt.notIn_listAt (eqU x) pl.isList (fun w hw => mem_eqAt rx fx r fs w (by simpa using hw)) ⟨.bl _, H, I, rfl, ?_⟩
    rw [show its.toArray.any (eqU x) = its.any (eqU x) by simp, any_eqU r fs]
    exact q
  · obtain ⟨its, r, pl, hz⟩ := I.tuple hq
    refine SeqAt.notIn_tupleAt (eqU x) pl (fun w hw => mem_eqAt rx fx r fs w (by simpa using hw)) ⟨.bl _, H, I, rfl, ?_⟩
    rw [show its.toArray.any (eqU x) = its.any (eqU x) by simp, any_eqU r fs]
    exact q
/-! ### len, list(x), tuple(x) of any list or tuple that is read -/
theorem call_len_seq : CallR X (.builtin "len") (fun xs H Q => ∃ p ys, xs = [.ref p] ∧ (SqL X.K H p ys ∨ SqT X.K H p ys) ∧ Q (.int ys.length) H) := by
  intro pins s σ H xs us Q I r h
  obtain ⟨p, ys, rfl, hq, q⟩ := h
  obtain ⟨u, rfl, rx⟩ := vals1 r
  cases rx
  have hn := line63
  rcases hq with hq | hq
  · obtain ⟨its, r', pl, hz⟩ := I.list hq
    have hlen := r'.length
    exact Calls.call_len_list pl.isList (by simp only [List.size_toArray] <;> omega) ⟨.int ys.length, H, I.tok _, ⟨s.toks + 1, by rw [List.size_toArray, hlen]⟩, q⟩
  · obtain ⟨its, r', pl, hz⟩ := I.tuple hq
    have hlen := r'.length
    exact len_tuple pl (by simp only [List.size_toArray] <;> omega) ⟨.int ys.length, H, I.tok _, ⟨s.toks + 1, by rw [List.size_toArray, hlen]⟩, q⟩
theorem call_list_of : CallR X (.type "list") (fun xs H Q => ∃ p ys, xs = [.ref p] ∧ (SqL X.K H p ys ∨ SqT X.K H p ys) ∧ ∀ l, H l = none → Q (.ref l) (upd H l (.lst ys))) := by
  intro pins s σ H xs us Q I r h
  obtain ⟨p, ys, rfl, hq, q⟩ := h
  obtain ⟨u, rfl, rx⟩ := vals1 r
  cases rx
  have fin : ∀ (its : List Value), Vals ys its → ys.length ≤ sizeLine → ∀ (h' : Heap) (c' : Nat), (∀ b o', s.heap.get? b = some o' → h'.get? b = some o') →
      h'.get? s.heap.objs.size = some { cls := .type "list", dict := none, data := .seq its.toArray c', slots := #[] } → EP X pins σ Q (.ref s.heap.objs.size) { s with heap := h' } := fun its r' hz h' c' kp e =>
    ⟨.ref s.heap.objs.size, _, I.laid (t' := s.toks) kp (Nat.le_refl _) (show ObjOk X.prog X.w _ h' _ (.lst ys) from ⟨hz, its, c', r', e⟩), rfl, q _ (I.hok.fresh (Nat.le_refl _))⟩
  rcases hq with hq | hq
  · obtain ⟨its, r', pl, hz⟩ := I.list hq
    have hlen := r'.length
    obtain ⟨o, ho, hc, n, hd⟩ := pl.isList
    exact call_list_seq p (.inl rfl) ho hc hd (fun h' c' kp e => fin its r' hz h' c' kp e) (by simp only [List.size_toArray] <;> omega)
  · obtain ⟨its, r', pl, hz⟩ := I.tuple hq
    have hlen := r'.length
    obtain ⟨o, ho, hc, n, hd⟩ := pl
    exact call_list_seq p (.inr rfl) ho hc hd (fun h' c' kp e => fin its r' hz h' c' kp e) (by simp only [List.size_toArray] <;> omega)
theorem call_tuple_of : CallR X (.type "tuple") (fun xs H Q => ∃ p ys, xs = [.ref p] ∧ ((SqL X.K H p ys ∧ ∀ l, H l = none → Q (.ref l) (upd H l (.tup ys))) ∨ (SqT X.K H p ys ∧ Q (.ref p) H))) := by
  intro pins s σ H xs us Q I r h
  obtain ⟨p, ys, rfl, h⟩ := h
  obtain ⟨u, rfl, rx⟩ := vals1 r
  cases rx
  rcases h with ⟨hq, q⟩ | ⟨hq, q⟩
  · obtain ⟨its, r', pl, hz⟩ := I.list hq
    have hlen := r'.length
    refine call_tuple_list pl.isList (fun h' kp => ?_) (by simp only [List.size_toArray] <;> omega)
    have I1 : Inv X pins σ H { s with heap := h' } := I.kept (t' := s.toks) kp
    have I2 : Inv X pins σ (upd H h'.objs.size (.tup ys)) { s with heap := h'.push { cls := .type "tuple", data := .seq its.toArray } } :=
      I1.laid (t' := s.toks) (fun b o e => Heap.get?_push_of_some _ e) (Nat.le_refl _) (show ObjOk X.prog X.w _ _ _ (.tup ys) from ⟨hz, its, r', IsTup.new _ _⟩)
    exact ⟨.ref h'.objs.size, _, I2, rfl, q _ (I1.hok.fresh (Nat.le_refl _))⟩
  · obtain ⟨its, r', pl, hz⟩ := I.tuple hq
    exact call_tuple_same pl ⟨.ref p, H, I, rfl, q⟩

/-! ### the call of a builtin's method: o.m(..) -/
/-- the value is of that builtin type -/
def tyV (K : PySem.W.Frag) (T : String) (x : V) (H : Hp) : Prop := match x with
  | .str _ => T = "str"
  | .int _ => T = "int"
  | .ref p => (T = "list" ∧ ∃ xs, SqL K H p xs) ∨ (T = "tuple" ∧ ∃ o, K.lookup p = some o ∧ o.cls = .type "tuple" ∧ o.dict = none) ∨
      (T = "dict" ∧ ((∃ kvs, H p = some (.dK kvs)) ∨ ∃ kvs, H p = some (.dT kvs))) ∨ (T = "set" ∧ ∃ S n, H p = some (.set S n))
  | _ => False
theorem tyV_is {pins : List (Addr × Obj)} {σ : St} {H : Hp} {s : Shared} {T : String} {x : V} {v : Value} (I : Inv X pins σ H s) (r : RelV x v) (ty : tyV X.K T x H) :
    s.TypeIs v T ∧ ∀ a, v = .ref a → ∃ ob, s.heap.get? a = some ob ∧ ob.dict = none := by
  cases x with
  | str z =>
    obtain ⟨t, rfl⟩ := r
    cases (show T = "str" from ty)
    exact ⟨typeIs_str s z t, fun _ e => nomatch e⟩
  | int i =>
    obtain ⟨t, rfl⟩ := r
    cases (show T = "int" from ty)
    exact ⟨typeIs_int s i t, fun _ e => nomatch e⟩
  | ref p =>
    cases r
    rcases ty with ⟨rfl, xs, hq⟩ | ⟨rfl, o, hk, hc, hd⟩ | ⟨rfl, hk⟩ | ⟨rfl, S, n, hk⟩
    · obtain ⟨its, _, pl, _⟩ := I.list hq
      refine ⟨pl.isList.typeIs, fun a e => ?_⟩
      cases e
      obtain ⟨o, n, e, c, hd, _⟩ := pl
      exact ⟨o, e, hd⟩
    · refine ⟨⟨o, I.kIn p o hk, hc⟩, fun a e => ?_⟩
      cases e
      exact ⟨o, I.kIn _ o hk, hd⟩
    · have z : ∃ o, s.heap.get? p = some o ∧ o.ExactDict := by
        rcases hk with ⟨kvs, hk⟩ | ⟨kvs, hk⟩
        · obtain ⟨_, _, _, _, o, _, _, e, ex, _⟩ := I.hok p _ hk
          exact ⟨o, e, ex⟩
        · obtain ⟨_, _, _, _, o, _, _, e, ex, _⟩ := I.hok p _ hk
          exact ⟨o, e, ex⟩
      obtain ⟨o, e, ex⟩ := z
      refine ⟨⟨o, e, ex.1⟩, fun a e2 => ?_⟩
      cases e2
      exact ⟨o, e, ex.2.1⟩
    · obtain ⟨o, _, _, _, e, ex, _⟩ := I.hok p _ hk
      refine ⟨⟨o, e, ex.1⟩, fun a e2 => ?_⟩
      cases e2
      exact ⟨o, e, ex.2.1⟩
  | _ => exact False.elim ty
def tBM0 (K : PySem.W.Frag) (T : String) (r : V → List V → Hp → VK → Prop) (to : TE) : TE := fun σ H Q => to σ H fun x H1 => tyV K T x H1 ∧ r x [] H1 Q
def tBM (K : PySem.W.Frag) (T : String) (r : V → List V → Hp → VK → Prop) (to : TE) (t : TA) : TE := fun σ H Q => to σ H fun x H1 => tyV K T x H1 ∧ t σ H1 fun xs H2 => r x xs H2 Q
variable {o e : Expr} {es : List Expr} {to : TE} {t : TA} {name : Str} {apos cpos : Pos} {T id : String} {r : V → List V → Hp → VK → Prop}
theorem pe_bm0 (pa : PlainAttrs T) (slot : Slot T name id) (hty : typeOf (.builtin id) = pure (.type "method_descriptor")) (hm : MtR X id r) (ho : PE X o to)
    (hbase : attributeBase o name X.env (eval o X.env) = eval o X.env := by rfl) (hline : (apos.endLine == cpos.line) = true := by rfl) : PE X (.Call (.Attribute o name apos) [] [] cpos) (tBM0 X.K T r to) := by
  intro pins s σ H Q I h
  refine wpAny_Call_method0_late hbase hline (thn (ho pins s σ H _ I h) fun v s1 ⟨x, H1, I1, r1, ty, q1⟩ => ?_)
  obtain ⟨h1, h2⟩ := tyV_is I1 r1 ty
  exact ⟨T, id, pa, slot, hty, h1, h2, Calls.callWith_builtin rfl (PySem.evalArgs_none (hm pins s1 σ H1 x [] v [] Q I1 r1 .nil q1))⟩
theorem pe_bm (pa : PlainAttrs T) (slot : Slot T name id) (hty : typeOf (.builtin id) = pure (.type "method_descriptor")) (hm : MtR X id r) (ho : PE X o to) (ha : PA X (e :: es) t)
    (hbase : attributeBase o name X.env (eval o X.env) = eval o X.env := by rfl)
    (hfew : ((backTo cpos (starEach (e :: es) X.env)).all (fun x => !x.1) && (backToKw cpos (keywordEach [] X.env)).all (fun x => x.1.isSome)
      && decide ((e :: es).length + ([] : List Keyword).length + (if ([] : List Keyword).isEmpty then 0 else 1) < 30)) = true := by rfl)
    (hline : (apos.endLine == cpos.line) = true := by rfl) (hs : starEach (e :: es) X.env = (false, eval e X.env) :: starEach es X.env := by rfl) (hplain : (backTo cpos (starEach es X.env)).any (·.1) = false := by rfl) :
    PE X (.Call (.Attribute o name apos) (e :: es) [] cpos) (tBM X.K T r to t) := by
  intro pins s σ H Q I h
  refine wpAny_Call_method_late hbase hfew hline rfl (thn (ho pins s σ H _ I h) fun v s1 ⟨x, H1, I1, r1, ty, q1⟩ => ?_)
  obtain ⟨h1, h2⟩ := tyV_is I1 r1 ty
  refine ⟨T, id, pa, slot, hty, h1, h2, ?_⟩
  have hA := ha cpos pins s1 σ H1 _ I1 q1
  rw [hs] at hA ⊢
  refine Calls.callWith_builtin (by show (false || (backTo cpos (starEach es X.env)).any (·.1)) = false; rw [hplain] <;> rfl) (Calls.evalArgs_plain ?_)
  exact thn hA fun us s2 ⟨vs, H2, I2, r2, q2⟩ => hm pins s2 σ H2 x vs v us Q I2 r1 r2 q2
/- xs.append(e), list.index on a module's tuple .. are MtR facts of 06m -/
end
end L2

namespace L2
open PySem PySem.Spec PyProof.Rows

def MtM (X : Cx) (id : String) (r : V → List V → Hp → VK → Prop) : Prop :=
  ∀ (pins : List (Addr × Obj)) (s : Shared) (σ : St) (H : Hp) (x : V) (xs : List V) (v : Value) (us : List Value) (Q : VK), Inv X pins σ H s → RelV x v → Vals xs us → r x xs H Q →
    wpAny (model X.prog X.w) X.A (call (.builtin id) (v :: us)) (EP X pins σ Q) X.xe s

/-! ### lists of values -/
theorem Vals.one {x : V} {us : List Value} (h : Vals [x] us) : ∃ u, us = [u] ∧ RelV x u := by
  cases h with
  | cons r t => cases t; exact ⟨_, rfl, r⟩
theorem Vals.two {x y : V} {us : List Value} (h : Vals [x, y] us) : ∃ u v, us = [u, v] ∧ RelV x u ∧ RelV y v := by
  cases h with
  | cons r t =>
    cases t with
    | cons q t => cases t; exact ⟨_, _, rfl, r, q⟩
theorem Vals.eraseIdx : ∀ {xs : List V} {us : List Value} (i : Nat), Vals xs us → Vals (xs.eraseIdx i) (us.eraseIdx i)
  | _, _, _, .nil => .nil
  | _, _, 0, .cons _ t => t
  | _, _, i + 1, .cons r t => .cons r (Vals.eraseIdx i t)
theorem Vals.rep {xs : List V} {us : List Value} (h : Vals xs us) : ∀ k : Nat, Vals (List.replicate k xs).flatten (List.replicate k us).flatten
  | 0 => .nil
  | k + 1 => by
    rw [List.replicate_succ, List.replicate_succ, List.flatten_cons, List.flatten_cons]
    exact Vals.append h (Vals.rep h k)
theorem len_erase {α : Type} : ∀ (l : List α) (i : Nat), (l.eraseIdx i).length ≤ l.length
  | [], _ => Nat.le_refl _
  | _ :: _, 0 => Nat.le_succ _
  | _ :: r, i + 1 => Nat.succ_le_succ (len_erase r i)
theorem foldl_rep (its : List Value) : ∀ (k : Nat) (acc : List Value),
    List.foldl (fun x1 x2 => x1 ++ x2) acc.toArray (List.replicate k its.toArray) = (acc ++ (List.replicate k its).flatten).toArray
  | 0, acc => by simp
  | k + 1, acc => by
    have e : acc.toArray ++ its.toArray = (acc ++ its).toArray := by simp
    have e2 : (acc ++ its) ++ (List.replicate k its).flatten = acc ++ (List.replicate (k + 1) its).flatten := by
      rw [List.replicate_succ, List.flatten_cons, List.append_assoc]
    rw [← e2, ← foldl_rep its k (acc ++ its), ← e, List.replicate_succ, List.foldl_cons]

section
variable {X : Cx} {pins : List (Addr × Obj)} {σ : St} {H : Hp} {s : Shared} {l b : Addr} {xs ys zs : List V}

/-! ### the two steps: a tracked list is rewritten, a new list is laid -/
theorem Inv.lset {its its' : List Value} {n : Nat} {f : Array Value → Array Value} {t' : Nat} (I : Inv X pins σ H s) (hH : H l = some (.lst xs))
    (e : s.heap.get? l = some { cls := .type "list", data := .seq its.toArray n }) (hf : f its.toArray = its'.toArray) (hv : Vals ys its') (hz : ys.length ≤ sizeLine) :
    Inv X pins σ (upd H l (.lst ys)) { s with heap := s.heap.update l (Obj.mapSeq f), toks := t' } := by
  have q := PySem.IsL.update e f
  rw [hf] at q
  refine I.write (x := l) (e := l) (by rw [hH]; exact trivial) (.inl rfl) (fun b' u hb hu => (Heap.get?_update_other s.heap (Obj.mapSeq f) (Ne.symm hb)).trans hu) ⟨_, q⟩ ?_
  exact ⟨hz, its', _, hv, q⟩
theorem Inv.lnew {its : List Value} {t' : Nat} (I : Inv X pins σ H s) (hv : Vals ys its) (hz : ys.length ≤ sizeLine) :
    Inv X pins σ (upd H s.heap.objs.size (.lst ys)) { s with heap := s.heap.push { cls := .type "list", data := .seq its.toArray }, toks := t' } :=
  I.laid (fun _ _ q => Heap.get?_push_of_some _ q) (Nat.le_refl _) ⟨hz, its, 0, hv, Heap.get?_push_size _ rfl⟩
theorem Inv.fresh (I : Inv X pins σ H s) : H s.heap.objs.size = none := I.hok.fresh (Nat.le_refl _)
theorem Inv.lstM (I : Inv X pins σ H s) (hH : H l = some (.lst xs)) : xs.length ≤ sizeLine ∧ ∃ (its : List Value) (n : Nat), Vals xs its ∧ xs.length = its.length ∧ s.heap.get? l = some { cls := .type "list", data := .seq its.toArray n } := by
  obtain ⟨z, its, n, r, e⟩ := I.hok l _ hH
  exact ⟨z, its, n, r, r.length, e⟩

theorem notLongL {n : Nat} (h : n ≤ sizeLine) : Builtin.List.listTooLong n = false := by
  unfold Builtin.List.listTooLong
  exact decide_eq_false (by omega)
end

section
variable {X : Cx}

/-! ### methods -/
def rAppend : V → List V → Hp → VK → Prop := fun x vs H Q => ∃ l xs y, x = .ref l ∧ vs = [y] ∧ H l = some (.lst xs) ∧ xs.length < sizeLine ∧ Q .non (upd H l (.lst (xs ++ [y])))
theorem mt_append : MtM X "list.append" rAppend := by
  intro pins s σ H x vs v us Q I rx rv h
  obtain ⟨l, xs, y, rfl, rfl, hH, hz, q⟩ := h
  cases rx
  obtain ⟨u, rfl, ru⟩ := rv.one
  obtain ⟨z, its, n, r, hl, e⟩ := I.lstM hH
  refine call_meets F.slot_list_append ⟨_, e, rfl⟩ F.entry_list_append (F.args_list_append_2 _ _) (PySem.list_append l its.toArray n u (by rw [List.size_toArray]; omega)) ⟨e, ?_⟩
  refine ⟨.non, _, I.lset (its' := its ++ [u]) hH e (by simp) (r.append (.cons ru .nil)) ?_, rfl, q⟩
  rw [List.length_append, List.length_singleton]
  omega

def rPopAt : V → List V → Hp → VK → Prop := fun x vs H Q => ∃ l xs i k y, x = .ref l ∧ vs = [.int i] ∧ H l = some (.lst xs) ∧ -(2 ^ 63) ≤ i ∧ i < 2 ^ 63 ∧ seqIndex? i xs.length = some k ∧ xs[k]? = some y ∧ Q y (upd H l (.lst (xs.eraseIdx k)))
theorem mt_popAt : MtM X "list.pop" rPopAt := by
  intro pins s σ H x vs v us Q I rx rv h
  obtain ⟨l, xs, i, k, y, rfl, rfl, hH, h1, h2, hk, hy, q⟩ := h
  cases rx
  obtain ⟨u, rfl, ru⟩ := rv.one
  obtain ⟨t, rfl⟩ := ru
  obtain ⟨z, its, n, r, hl, e⟩ := I.lstM hH
  obtain ⟨w, hw, rw'⟩ := r.get hy
  refine call_meets F.slot_list_pop ⟨_, e, rfl⟩ F.entry_list_pop (F.args_list_pop_2 _ _)
    (MeetsSeq.list_pop_at l its.toArray n i t k w (fitsIndex_both h1 h2) (by rw [List.size_toArray, ← hl]; exact hk) (by rw [← Array.getElem?_toList]; exact hw) (by rw [List.size_toArray]; omega)) ⟨e, ?_⟩
  refine ⟨y, _, I.lset (its' := its.eraseIdx k) hH e ?_ (r.eraseIdx k) ?_, rw', q⟩
  · show its.toArray.eraseIdxIfInBounds k = (its.eraseIdx k).toArray
    rw [List.eraseIdxIfInBounds_toArray]
  · have := len_erase xs k
    omega

/-! ### list + list, list += list, list * int -/
/-- a list times an int (a negative one is nothing) -/
def rRep : R2 := fun x y H Q => ∃ l k xs, x = .ref l ∧ y = .int k ∧ H l = some (.lst xs) ∧ -(2 ^ 63) ≤ k ∧ k < 2 ^ 63 ∧ xs.length * k.toNat ≤ sizeLine ∧
  ∀ p, H p = none → Q (.ref p) (upd H p (.lst (List.replicate k.toNat xs).flatten))
theorem len_rep {α : Type} (xs : List α) (k : Nat) : (List.replicate k xs).flatten.length = k * xs.length := by
  induction k with
  | zero => simp
  | succ k ih => rw [List.replicate_succ, List.flatten_cons, List.length_append, ih, Nat.succ_mul, Nat.add_comm]
theorem op_rep : OpR X (binaryOp .Mult) rRep := by
  intro pins s σ H x y v u Q I rx ry h
  obtain ⟨l, k, xs, rfl, rfl, hH, h1, h2, hz, q⟩ := h
  cases rx
  obtain ⟨t, rfl⟩ := ry
  obtain ⟨z, its, n, r, hl, e⟩ := I.lstM hH
  have hlen : its.toArray.size * k.toNat ≤ sizeLine := by rw [List.size_toArray, ← hl]; exact hz
  have hcap : ¬ its.toArray.size * k.toNat > (2 ^ 63 - 1) / 8 := by
    have : (sizeLine : Nat) ≤ (2 ^ 63 - 1) / 8 := by decide
    omega
  have hfit : ¬ (!Builtin.List.listFitsIndex k) = true := by
    rw [fitsIndex_both h1 h2]
    exact Bool.false_ne_true
  have hlong : ¬ Builtin.List.listTooLong (its.toArray.size * k.toNat) = true := by
    rw [notLongL hlen]
    exact Bool.false_ne_true
  have hnew : List.foldl (fun x1 x2 => x1 ++ x2) #[] (List.replicate (if its.toArray.isEmpty = true then 0 else k.toNat) its.toArray) = (List.replicate k.toNat its).flatten.toArray := by
    have f0 : ∀ m : Nat, List.foldl (fun x1 x2 => x1 ++ x2) #[] (List.replicate m its.toArray) = (List.replicate m its).flatten.toArray := fun m => by
      have := foldl_rep its m []
      rw [List.nil_append] at this
      exact this
    rw [f0]
    cases its with
    | nil => simp
    | cons a r' => rw [if_neg (by simp)]
  refine wpAny_binaryOp_repeat_ref (T := "list") (U := "int") (by decide) ⟨_, e, rfl⟩ (fun s' => typeIs_int s' k t) noFill_list_mul F.fills_int_mul F.slot_int_rmul repeat_list F.slot_int_index.lookup
    (call_meets F.slot_int_rmul (typeIs_int s k t) F.entry_int_rmul (F.args_int_rmul_2 _ _) (int___rmul___int_list k t l its.toArray n)
      ⟨e, rfl, ⟨_, e, rfl⟩, call_meets F.slot_list_mul ⟨_, e, rfl⟩ F.entry_list_mul (F.args_list_mul_2 _ _) (AutoListH.list___mul___list_int_3 l its.toArray n k t hfit hcap hlong) ⟨e, ?_⟩⟩)
  rw [hnew]
  exact ⟨.ref _, _, I.lnew (t' := s.toks) (r.rep k.toNat) (by rw [len_rep, Nat.mul_comm]; exact hz), rfl, q _ I.fresh⟩

/-! ### del xs[i] -/
end

/-! ### xs[a:b] = ys -/
section
variable {prog : Program} {w : World} {A : Around} {E : Value → Shared → Prop} {s : Shared}
end

section
variable {X : Cx}
end
end L2

namespace L2
open PySem PySem.Spec PyProof.Rows

/-! ### lists of pairs as tables -/
section
variable {κ : Type} [DecidableEq κ]
def valV (kvs : List (κ × V)) (k : κ) : Option V := (kvs.find? fun kv => decide (kv.1 = k)).map (·.2)
/-- in its place, or at the end -/
def putK (kvs : List (κ × V)) (k : κ) (v : V) : List (κ × V) :=
  if (kvs.any fun kv => decide (kv.1 = k)) = true then kvs.map (fun kv => if kv.1 = k then (kv.1, v) else kv) else kvs ++ [(k, v)]
theorem valV_pos {p : κ × V} {r : List (κ × V)} {k : κ} (e : p.1 = k) : valV (p :: r) k = some p.2 := by simp [valV, List.find?_cons, e]
theorem valV_neg {p : κ × V} {r : List (κ × V)} {k : κ} (e : ¬ p.1 = k) : valV (p :: r) k = valV r k := by simp [valV, List.find?_cons, e]
theorem valV_any (k : κ) : ∀ kvs : List (κ × V), (kvs.any fun kv => decide (kv.1 = k)) = (valV kvs k).isSome
  | [] => rfl
  | p :: r => by
    rw [List.any_cons]
    by_cases e : p.1 = k
    · simp only [valV_pos e, decide_eq_true e, Bool.true_or, Option.isSome_some]
    · rw [valV_neg e, decide_eq_false e, Bool.false_or]; exact valV_any k r
theorem valV_map (k j : κ) (y : V) : ∀ kvs : List (κ × V), valV (kvs.map fun kv => if kv.1 = k then (kv.1, y) else kv) j = (valV kvs j).map fun x => if j = k then y else x
  | [] => rfl
  | p :: r => by
    have ih := valV_map k j y r
    rw [List.map_cons]
    by_cases h : p.1 = k
    · rw [if_pos h]
      by_cases e : p.1 = j
      · rw [valV_pos (p := (p.1, y)) e, valV_pos e, Option.map_some, if_pos (e.symm.trans h)]
      · rw [valV_neg (p := (p.1, y)) e, valV_neg e, ih]
    · rw [if_neg h]
      by_cases e : p.1 = j
      · rw [valV_pos (p := p) e, valV_pos e, Option.map_some, if_neg (fun z => h (e.trans z))]
      · rw [valV_neg (p := p) e, valV_neg e, ih]
theorem valV_snoc (k j : κ) (y : V) : ∀ kvs : List (κ × V), valV kvs k = none → valV (kvs ++ [(k, y)]) j = if j = k then some y else valV kvs j
  | [], _ => by
    by_cases e : k = j
    · rw [if_pos e.symm]; exact valV_pos (p := (k, y)) e
    · rw [if_neg (fun z => e z.symm)]; exact valV_neg (p := (k, y)) e
  | p :: r, hn => by
    rw [List.cons_append]
    have hk : ¬ p.1 = k := fun z => by rw [valV_pos z] at hn; cases hn
    rw [valV_neg hk] at hn
    have ih := valV_snoc k j y r hn
    by_cases e : p.1 = j
    · rw [valV_pos e, valV_pos e, if_neg (fun z => hk (e.trans z))]
    · rw [valV_neg e, valV_neg e, ih]
theorem valV_put (kvs : List (κ × V)) (k j : κ) (y : V) : valV (putK kvs k y) j = if j = k then some y else valV kvs j := by
  unfold putK
  by_cases a : (kvs.any fun kv => decide (kv.1 = k)) = true
  · rw [if_pos a, valV_map]
    rw [valV_any] at a
    by_cases e : j = k
    · obtain ⟨x, hx⟩ := Option.isSome_iff_exists.mp a
      rw [if_pos e, e, hx, Option.map_some, if_pos rfl]
    · rw [if_neg e]
      cases valV kvs j with
      | none => rfl
      | some x => rw [Option.map_some, if_neg e]
  · rw [if_neg a]
    refine valV_snoc k j y kvs ?_
    rw [valV_any] at a
    cases q : valV kvs k with
    | none => rfl
    | some x => rw [q] at a; exact (a rfl).elim
theorem length_putK (kvs : List (κ × V)) (k : κ) (v : V) : (putK kvs k v).length ≤ kvs.length + 1 := by
  unfold putK
  split
  · rw [List.length_map]; omega
  · rw [List.length_append, List.length_cons, List.length_nil]; omega
theorem RelO.isSome_eq {o : Option V} {u : Option Value} (r : RelO o u) : o.isSome = u.isSome := by
  cases o with
  | none => cases u with
    | none => rfl
    | some _ => exact (show False from r).elim
  | some _ => cases u with
    | none => exact (show False from r).elim
    | some _ => rfl
theorem RelO.getD {o : Option V} {u : Option Value} {d : V} {d' : Value} (r : RelO o u) (rd : RelV d d') : RelV (o.getD d) (u.getD d') := by
  cases o with
  | none => cases u with
    | none => exact rd
    | some _ => exact (show False from r).elim
  | some _ => cases u with
    | none => exact (show False from r).elim
    | some _ => exact r

/-- raw tables of the same keys -/
theorem KV.val {kvs : List (κ × V)} {vs : List (κ × Value)} (r : KV kvs vs) (k : κ) : RelO (valV kvs k) (valueAt vs k) := by
  unfold KV at r
  induction r with
  | nil => exact True.intro
  | @cons p q ps qs h t ih =>
    obtain ⟨h1, h2⟩ := h
    by_cases e : p.1 = k
    · have e' : q.1 = k := h1.symm.trans e
      have b : valueAt (q :: qs) k = some q.2 := by simp [valueAt, List.find?_cons, e']
      rw [valV_pos e, b]; exact h2
    · have e' : ¬ q.1 = k := fun z => e (h1.trans z)
      have b : valueAt (q :: qs) k = valueAt qs k := by simp [valueAt, List.find?_cons, e']
      rw [valV_neg e, b]; exact ih
theorem KV.any {kvs : List (κ × V)} {vs : List (κ × Value)} (r : KV kvs vs) (k : κ) : (kvs.any fun kv => decide (kv.1 = k)) = vs.any fun kv => decide (kv.1 = k) := by
  unfold KV at r
  induction r with
  | nil => rfl
  | cons h t ih => rw [List.any_cons, List.any_cons, ih, h.1]
theorem KV.repl {kvs : List (κ × V)} {vs : List (κ × Value)} (r : KV kvs vs) (k : κ) {y : V} {u : Value} (ry : RelV y u) :
    KV (kvs.map fun kv => if kv.1 = k then (kv.1, y) else kv) (vs.map fun kv => if kv.1 = k then (kv.1, u) else kv) := by
  unfold KV at r ⊢
  induction r with
  | nil => exact .nil
  | @cons p q ps qs h t ih =>
    rw [List.map_cons, List.map_cons]
    refine .cons ?_ ih
    obtain ⟨h1, h2⟩ := h
    by_cases e : p.1 = k
    · rw [if_pos e, if_pos (h1.symm.trans e)]; exact ⟨h1, ry⟩
    · rw [if_neg e, if_neg (fun z => e (h1.trans z))]; exact ⟨h1, h2⟩
theorem KV.put {kvs : List (κ × V)} {vs : List (κ × Value)} (r : KV kvs vs) (k : κ) {y : V} {u : Value} (ry : RelV y u) : KV (putK kvs k y) (stored vs k u) := by
  unfold putK stored
  rw [r.any k]
  by_cases e : (vs.any fun kv => decide (kv.1 = k)) = true
  · rw [if_pos e, if_pos e]; exact r.repl k ry
  · rw [if_neg e, if_neg e]; exact Paired.snoc r ⟨rfl, ry⟩
theorem KV.length {kvs : List (κ × V)} {vs : List (κ × Value)} (r : KV kvs vs) : kvs.length = vs.length := Paired.length r
end


/-! ### a tracked dict, its keys ints and texts or tuples of these -/
theorem kV_is {P : Program} {w : World} {k : Key} {u : Value} (r : RelV (kV k) u) : (mixKind P w).is k u = true := by
  cases k with
  | inl i => obtain ⟨t, e⟩ := (show ∃ t, u = Value.int i t from r); subst e; exact mixKind_int P w i t
  | inr x => obtain ⟨t, e⟩ := (show ∃ t, u = Value.str x t from r); subst e; exact mixKind_str P w x t
theorem items_are {P : Program} {w : World} : ∀ {ks : List Key} {us : List Value}, Vals (ks.map kV) us → ItemsAre (mixKind P w) ks us
  | [], _, r => by rw [List.map_nil] at r; cases r; exact .nil
  | k :: ks, _, r => by
    rw [List.map_cons] at r
    cases r with
    | cons h t => exact .cons (kV_is h) (items_are t)

/-- raw entries of a dict with tuple keys -/
abbrev KT (H : Hp) : List (List Key × V) → List (List Key × Addr × Value) → Prop := Paired fun p q => p.1 = q.1 ∧ H q.2.1 = some (.tup (p.1.map kV)) ∧ RelV p.2 q.2.2
theorem KT.val {H : Hp} {kvs : List (List Key × V)} {xs : List (List Key × Addr × Value)} (r : KT H kvs xs) (k : List Key) : RelO (valV kvs k) ((atKey xs k).map (·.2)) := by
  induction r with
  | nil => exact True.intro
  | @cons p q ps qs h t ih =>
    obtain ⟨h1, _, h2⟩ := h
    by_cases e : p.1 = k
    · have e' : q.1 = k := h1.symm.trans e
      have b : atKey (q :: qs) k = some q.2 := by simp [atKey, List.find?_cons, e']
      rw [valV_pos e, b]; exact h2
    · have e' : ¬ q.1 = k := fun z => e (h1.trans z)
      have b : atKey (q :: qs) k = atKey qs k := by simp [atKey, List.find?_cons, e']
      rw [valV_neg e, b]; exact ih
theorem KT.repl {H : Hp} {kvs : List (List Key × V)} {xs : List (List Key × Addr × Value)} (r : KT H kvs xs) (k : List Key) {y : V} {u : Value} (ry : RelV y u) :
    KT H (kvs.map fun kv => if kv.1 = k then (kv.1, y) else kv) (xs.map (putAt k u)) := by
  induction r with
  | nil => exact .nil
  | @cons p q ps qs h t ih =>
    rw [List.map_cons, List.map_cons]
    refine .cons ?_ ih
    obtain ⟨h1, h2, h3⟩ := h
    unfold putAt
    by_cases e : p.1 = k
    · rw [if_pos e, if_pos (h1.symm.trans e)]; exact ⟨h1, h2, ry⟩
    · rw [if_neg e, if_neg (fun z => e (h1.trans z))]; exact ⟨h1, h2, h3⟩
theorem KT.put {H : Hp} {kvs : List (List Key × V)} {xs : List (List Key × Addr × Value)} (r : KT H kvs xs) (k : List Key) {b : Addr} {y : V} {u : Value} (hb : H b = some (.tup (k.map kV))) (ry : RelV y u) :
    KT H (putK kvs k y) (storedH xs k b u) := by
  have e : (kvs.any fun kv => decide (kv.1 = k)) = (atKey xs k).isSome := by
    rw [valV_any, (r.val k).isSome_eq, Option.isSome_map]
  unfold putK storedH
  rw [e]
  by_cases q : (atKey xs k).isSome = true
  · rw [if_pos q, if_pos q]; exact r.repl k ry
  · rw [if_neg q, if_neg q]; exact Paired.snoc r ⟨rfl, hb, ry⟩
theorem KT.keeps {H H' : Hp} {kvs : List (List Key × V)} {xs : List (List Key × Addr × Value)} (r : KT H kvs xs) (ht : ∀ b ys, H b = some (.tup ys) → H' b = some (.tup ys)) : KT H' kvs xs :=
  Paired.mapP r fun _ _ z => ⟨z.1, ht _ _ z.2.1, z.2.2⟩

section
variable {P : Program} {w : World} {H : Hp} {h : Heap} {a : Addr}
theorem rd_of {u : HO} (ok : HOk P w H h) (e : Rd H a u) : ObjOk P w H h a u := e.ok ok
theorem dk_rd {kvs : List (Key × V)} (ok : HOk P w H h) (e : Rd H a (.dK kvs)) : kvs.length ≤ sizeLine ∧ (a == sysModules) = false ∧ ∃ vs, KV kvs vs ∧ h.DictOf (mixKind P w) a vs :=
  show ObjOk P w H h a (.dK kvs) from rd_of ok e
theorem dk_of {kvs : List (Key × V)} (ok : HOk P w H h) (e : H a = some (.dK kvs)) : kvs.length ≤ sizeLine ∧ (a == sysModules) = false ∧ ∃ vs, KV kvs vs ∧ h.DictOf (mixKind P w) a vs := dk_rd ok (.inl e)
/-- a tracked tuple of ints and texts is a key -/
theorem key_of {ks : List Key} (ok : HOk P w H h) (e : H a = some (.tup (ks.map kV))) : (tupleKind (mixKind P w)).is h ks a := by
  obtain ⟨_, its, r, o, h1, h2, n, h3⟩ := (show ObjOk P w H h a (.tup (ks.map kV)) from ok a _ e)
  exact ⟨o, its.toArray, n, h1, h2, h3, by simpa using items_are r⟩
theorem dt_rd {kvs : List (List Key × V)} (ok : HOk P w H h) (e : Rd H a (.dT kvs)) : kvs.length ≤ sizeLine ∧ (a == sysModules) = false ∧
    ∃ xs, KT H kvs xs ∧ h.DictOfH (tupleKind (mixKind P w)) a xs := by
  obtain ⟨z, y, xs, r, o, es, ep, h1, h2, h3, h4, h5⟩ := (show ObjOk P w H h a (.dT kvs) from rd_of ok e)
  refine ⟨z, y, xs, r, o, es, ep, h1, h2, h3, h4, fun x hx => ?_, h5⟩
  have all : ∀ {l : List (List Key × V)} {m : List (List Key × Addr × Value)}, KT H l m → ∀ x ∈ m, (tupleKind (mixKind P w)).is h x.1 x.2.1 := by
    intro l m q
    induction q with
    | nil => intro x hx; exact nomatch hx
    | @cons p q ps qs hq t ih =>
      intro x hx
      rcases List.mem_cons.mp hx with e | hx
      · subst e
        exact key_of ok (by rw [← hq.1]; exact hq.2.1)
      · exact ih x hx
  exact all r x hx
theorem dt_of {kvs : List (List Key × V)} (ok : HOk P w H h) (e : H a = some (.dT kvs)) : kvs.length ≤ sizeLine ∧ (a == sysModules) = false ∧
    ∃ xs, KT H kvs xs ∧ h.DictOfH (tupleKind (mixKind P w)) a xs := dt_rd ok (.inl e)
end

/-- what the dict at a holds at the key y -/
def DGet (H : Hp) (a : Addr) (y : V) (r : Option V) : Prop :=
  (∃ kvs k, Rd H a (.dK kvs) ∧ y = kV k ∧ r = valV kvs k) ∨ ∃ kvs k b, Rd H a (.dT kvs) ∧ y = .ref b ∧ H b = some (.tup (k.map kV)) ∧ r = valV kvs k
/-- the heap behind a[y] = v -/
def DPut (H : Hp) (a : Addr) (y v : V) (H' : Hp) : Prop :=
  (∃ kvs k, H a = some (.dK kvs) ∧ y = kV k ∧ kvs.length < sizeLine ∧ H' = upd H a (.dK (putK kvs k v))) ∨
  ∃ kvs k b, H a = some (.dT kvs) ∧ y = .ref b ∧ H b = some (.tup (k.map kV)) ∧ kvs.length < sizeLine ∧ H' = upd H a (.dT (putK kvs k v))
theorem DGet.k {H : Hp} {a : Addr} {kvs : List (Key × V)} {k : Key} (e : H a = some (.dK kvs)) : DGet H a (kV k) (valV kvs k) := .inl ⟨kvs, k, .inl e, rfl, rfl⟩
theorem DGet.t {H : Hp} {a b : Addr} {kvs : List (List Key × V)} {k : List Key} (e : H a = some (.dT kvs)) (eb : H b = some (.tup (k.map kV))) : DGet H a (.ref b) (valV kvs k) := .inr ⟨kvs, k, b, .inl e, rfl, eb, rfl⟩
theorem DPut.k {H : Hp} {a : Addr} {kvs : List (Key × V)} {k : Key} {v : V} (e : H a = some (.dK kvs)) (hl : kvs.length < sizeLine) : DPut H a (kV k) v (upd H a (.dK (putK kvs k v))) := .inl ⟨kvs, k, e, rfl, hl, rfl⟩
theorem DPut.t {H : Hp} {a b : Addr} {kvs : List (List Key × V)} {k : List Key} {v : V} (e : H a = some (.dT kvs)) (eb : H b = some (.tup (k.map kV))) (hl : kvs.length < sizeLine) :
    DPut H a (.ref b) v (upd H a (.dT (putK kvs k v))) := .inr ⟨kvs, k, b, e, rfl, eb, hl, rfl⟩


section
variable {X : Cx} {pins : List (Addr × Obj)} {σ : St} {H : Hp} {s : Shared} {a : Addr} {y v : V} {u r : Value} {o : Option V} {A : Around} {E : Value → Shared → Prop}

theorem Inv.big (I : Inv X pins σ H s) : sysModules < s.heap.objs.size := by
  have h : mainGlobals < s.heap.objs.size := (I.mod.glob.keeps I.bk).lt
  exact Nat.lt_trans (by decide) h

/-- d[y], there -/
theorem d_getItem {Q : Value → Shared → Prop} (hu : A.units + 1 < cLine) (I : Inv X pins σ H s) (g : DGet H a y (some v)) (ry : RelV y u) (h : ∀ w' s', Inv X pins σ H s' → RelV v w' → Q w' s') :
    wpAny (model X.prog X.w) A (getItem (.ref a) u) Q E s := by
  rcases g with ⟨kvs, k, e, ey, l⟩ | ⟨kvs, k, b, e, ey, eb, l⟩
  · subst ey
    obtain ⟨z, hd, vs, rel, dd⟩ := dk_rd I.hok e
    obtain ⟨w', hw, rw'⟩ := RelO.some_of (v := v) (o := valueAt vs k) (by rw [l]; exact rel.val k)
    exact wpAny_getItem_of (kV_is ry) dd.mapOf hw (h w' _ (I.tok _) rw')
  · subst ey
    cases (show u = Value.ref b from ry)
    obtain ⟨z, hd, xs, rel, dd⟩ := dt_rd I.hok e
    obtain ⟨w', hw, rw'⟩ := RelO.some_of (v := v) (o := (atKey xs k).map (·.2)) (by rw [l]; exact rel.val k)
    obtain ⟨p, hp, hp2⟩ := Option.map_eq_some_iff.mp hw
    refine wpAny_getItem_heap (tupleKind_room_in1 hu) (key_of I.hok eb) dd hp ?_
    rw [hp2]
    exact h w' _ (I.tok _) rw'
/-- y in d -/
theorem d_in {Q : Value → Shared → Prop} (hu : A.units + 1 < cLine) (I : Inv X pins σ H s) (g : DGet H a y o) (ry : RelV y u) (h : ∀ s', Inv X pins σ H s' → Q (.bool o.isSome) s') :
    wpAny (model X.prog X.w) A (compareOp .In u (.ref a)) Q E s := by
  rcases g with ⟨kvs, k, e, ey, l⟩ | ⟨kvs, k, b, e, ey, eb, l⟩
  · subst ey
    obtain ⟨z, hd, vs, rel, dd⟩ := dk_rd I.hok e
    refine wpAny_in_of (kV_is ry) hd dd.mapOf ?_
    rw [← (rel.val k).isSome_eq, ← l]
    exact h _ (I.tok _)
  · subst ey
    cases (show u = Value.ref b from ry)
    obtain ⟨z, hd, xs, rel, dd⟩ := dt_rd I.hok e
    refine wpAny_in_heap (tupleKind_room_in1 hu) (key_of I.hok eb) hd dd ?_
    have q := (rel.val k).isSome_eq
    rw [Option.isSome_map] at q
    rw [← q, ← l]
    exact h _ (I.tok _)
/-- a dict's object is replaced -/
theorem d_write {h' : Heap} {t' : Nat} {ob : HO} (I : Inv X pins σ H s) (mu : Mut (H a)) (hs : Heap.SameBut a s.heap h') (he : ∃ q, h'.get? a = some q) (new : ObjOk X.prog X.w (upd H a ob) h' a ob) :
    Inv X pins σ (upd H a ob) { s with heap := h', toks := t' } :=
  I.write (x := a) (e := a) mu (.inl rfl) (fun b q hb z => (hs.2 b hb).trans z) he new
theorem dk_new {P : Program} {w : World} {H' : Hp} {h' : Heap} {kvs : List (Key × V)} {vs : List (Key × Value)} (z : kvs.length ≤ sizeLine) (hd : (a == sysModules) = false) (rel : KV kvs vs) (dd : h'.DictOf (mixKind P w) a vs) :
    ObjOk P w H' h' a (.dK kvs) := ⟨z, hd, vs, rel, dd⟩
/-- d[y] = v -/
theorem d_setItem {H' : Hp} {Q : Unit → Shared → Prop} (hu : A.units + 1 < cLine) (I : Inv X pins σ H s) (g : DPut H a y v H') (ry : RelV y u) (rv : RelV v r) (h : ∀ s', Inv X pins σ H' s' → Q () s') :
    wpAny (model X.prog X.w) A (setItem (.ref a) u r) Q E s := by
  rcases g with ⟨kvs, k, e, ey, l, eH⟩ | ⟨kvs, k, b, e, ey, eb, l, eH⟩
  · subst ey eH
    obtain ⟨z, hd, vs, rel, dd⟩ := dk_of I.hok e
    have hz : vs.length ≤ sizeLine := by rw [← rel.length]; exact z
    have hl : (putK kvs k v).length ≤ sizeLine := by have := length_putK kvs k v; omega
    refine wpAny_setItem_pairs (hsz := hz) (kV_is ry) dd fun h' dd' hs => h _ ?_
    have he : ∃ q, h'.get? a = some q := let ⟨q, _, _, hq, _⟩ := dd'; ⟨q, hq⟩
    exact d_write I (by rw [e]; exact True.intro) hs he (dk_new hl hd (rel.put k rv) dd')
  · subst ey eH
    cases (show u = Value.ref b from ry)
    obtain ⟨z, hd, xs, rel, dd⟩ := dt_of I.hok e
    have hz : xs.length ≤ sizeLine := by rw [← Paired.length rel]; exact z
    have hl : (putK kvs k v).length ≤ sizeLine := by have := length_putK kvs k v; omega
    refine wpAny_setItem_heap (hsz := hz) (tupleKind_room_in1 hu) (key_of I.hok eb) dd fun h' dd' hs => h _ ?_
    obtain ⟨q, es, ep, hq, h2, h3, h4, _, h5⟩ := dd'
    refine d_write I (by rw [e]; exact True.intro) hs ⟨q, hq⟩ ⟨hl, hd, _, (rel.put k eb rv).keeps fun c ys ec => ?_, q, es, ep, hq, h2, h3, h4, h5⟩
    rw [upd_ne (ne_of ec e (fun z => nomatch z))]
    exact ec
end

section
variable {X : Cx} {pins : List (Addr × Obj)} {σ : St} {H : Hp} {s : Shared} {a : Addr} {kvs : List (Key × V)} {k : Key} {u : Value} {A : Around} {E : Value → Shared → Prop}
end


/-! ### readings and rules -/
/-- the element of a subscription, not a slice -/
def NoSl (i : Expr) : Prop := ∀ ov iv, subscripted i false ov iv = operate [ov, iv] (getItem ov iv)
theorem subD_of {prog : Program} {w : World} {A : Around} {E : Value → Shared → Prop} {s : Shared} {env : Env} {value slice : Expr} {pos : Pos} {T id : String} {Q : Value → Shared → Prop}
    (hl : typeLookup (.type T) "__getitem__" = pure (some (.builtin id))) (hs : NoSl slice)
    (h : wpAny (model prog w) A (eval value env) (fun o s₁ => wpAny (model prog w) A (eval slice env) (fun i s₂ => s₂.TypeIs o T ∧ wpAny (model prog w) A (getItem o i) Q E s₂) E s₁) E s) :
    wpAny (model prog w) A (eval (.Subscript value slice pos) env) Q E s := by
  refine Subscript_ (wpAny_mono h (fun o s₁ h₁ => wpAny_mono h₁ (fun i s₂ h₂ => ?_) fun _ _ x => x) fun _ _ x => x)
  obtain ⟨hT, h₂⟩ := h₂
  unfold subscriptTail
  refine wpAny_bind ?_
  rw [getitemInPython_of_ne hT.not_modules]
  refine wpAny_bind (wpAny_specialOf hT hl ?_)
  have fin : wpAny (model prog w) A (subscripted slice false o i) (fun r s₃ => wpAny (model prog w) A (letTemporaryGo value o r >>= fun _ => pure r) Q E s₃) E s₂ := by
    rw [hs o i]
    exact wpAny_operating (wpAny_mono h₂ (fun r s₃ h₃ => wpAny_bind (wpAny_letTemporaryGo (wpAny_pure h₃))) fun _ _ x => x)
  first
    | exact wpAny_pure (wpAny_bind fin)
    | exact wpAny_bind (wpAny_pure (wpAny_bind fin))
    | exact wpAny_bind fin

theorem dict_typeIs {X : Cx} {pins : List (Addr × Obj)} {σ : St} {H : Hp} {s : Shared} {a : Addr} {y : V} {o : Option V} (I : Inv X pins σ H s) (g : DGet H a y o) : s.TypeIs (.ref a) "dict" := by
  rcases g with ⟨kvs, k, e, _, _⟩ | ⟨kvs, k, b, e, _, _, _⟩
  · obtain ⟨_, _, vs, _, dd⟩ := dk_rd I.hok e
    exact dd.typeIs
  · obtain ⟨_, _, xs, _, dd⟩ := dt_rd I.hok e
    exact dd.typeIs
/-- d[y] -/
def tDGet (td ty : TE) : TE := fun σ H Q => td σ H fun x H1 => ty σ H1 fun y H2 => ∃ a v, x = .ref a ∧ DGet H2 a y (some v) ∧ Q v H2
/-- y in d, y not in d -/
def tDIn (ty td : TE) : TE := fun σ H Q => ty σ H fun y H1 => td σ H1 fun x H2 => ∃ a o, x = .ref a ∧ DGet H2 a y o ∧ Q (.bl o.isSome) H2
/-- d[y] = v -/
def sDPut (td ty tv : TE) : TS := fun D σ H => tv σ H fun v H1 => td σ H1 fun x H2 => ty σ H2 fun y H3 => ∃ a H4, x = .ref a ∧ DPut H3 a y v H4 ∧ D.nx σ H4
section
variable {X : Cx} {o i e value : Expr} {pos pos' tpos : Pos} {td ty tv : TE}
theorem pe_dget (hu : X.A.units + 1 < cLine) (ho : PE X o td) (hi : PE X i ty) (hs : NoSl i) : PE X (.Subscript o i pos) (tDGet td ty) := by
  intro pins s σ H Q I h
  refine subD_of PySem.F.slot_dict_getitem.lookup hs (thn (ho pins s σ H _ I h) fun u s1 ⟨x, H1, I1, rx, q1⟩ => thn (hi pins s1 σ H1 _ I1 q1) fun iv s2 ⟨y, H2, I2, ry, a, v, ex, g, q2⟩ => ?_)
  subst ex
  obtain rfl : u = Value.ref a := rx
  exact ⟨dict_typeIs I2 g, d_getItem hu I2 g ry fun w' s3 I3 rw' => ⟨v, H2, I3, rw', q2⟩⟩
theorem pc_din (hu : X.A.units + 1 < cLine) (hi : PE X i ty) (ho : PE X o td) : PC X .In i o (tDIn ty td) := by
  intro pins s σ H Q I h
  refine thn (hi pins s σ H _ I h) fun iv s1 ⟨y, H1, I1, ry, q1⟩ => thn (ho pins s1 σ H1 _ I1 q1) fun u s2 ⟨x, H2, I2, rx, a, ov, ex, g, q2⟩ => ?_
  subst ex
  obtain rfl : u = Value.ref a := rx
  exact d_in hu I2 g ry fun s3 I3 => ⟨.bl ov.isSome, H2, I3, rfl, q2⟩
theorem ps_dput (hu : X.A.units + 1 < cLine) (ho : PE X o td) (hi : PE X i ty) (hv : PE X value tv) (hs : swapsWith value (some (.Subscript o i pos')) pos.line X.env = pure false) :
    PS X (.Assign [.Subscript o i pos'] value pos) (sDPut td ty tv) := by
  intro pins s σ H D I h
  refine wpAny_Assign_Subscript (thn (hv pins s σ H _ I h) fun r s1 ⟨v, H1, I1, rv, q1⟩ => thn (ho pins s1 σ H1 _ I1 q1) fun u s2 ⟨x, H2, I2, rx, q2⟩ => thn (hi pins s2 σ H2 _ I2 q2) fun iv s3 ⟨y, H3, I3, ry, a, H4, ex, g, q3⟩ => ?_) hs
  subst ex
  obtain rfl : u = Value.ref a := rx
  exact d_setItem hu I3 g ry rv fun s4 I4 => ⟨σ, H4, I4, q3⟩
end


/-! ### displays -/
theorem dk_empty {P : Program} {w : World} {H : Hp} (h : Heap) (hb : sysModules < h.objs.size) : ObjOk P w H (h.push { cls := .type "dict", data := .dict #[] }) h.objs.size (.dK []) :=
  ⟨Nat.zero_le _, beq_eq_false_iff_ne.mpr (Ne.symm (Nat.ne_of_lt hb)), [], .nil, Heap.DictOf.new h⟩
theorem dt_empty {P : Program} {w : World} {H : Hp} (h : Heap) (hb : sysModules < h.objs.size) : ObjOk P w H (h.push { cls := .type "dict", data := .dict #[] }) h.objs.size (.dT []) :=
  ⟨Nat.zero_le _, beq_eq_false_iff_ne.mpr (Ne.symm (Nat.ne_of_lt hb)), [], .nil, _, #[], 0, Heap.get?_push_size _ rfl, ⟨rfl, rfl, rfl⟩, rfl, rfl, List.nodup_nil⟩
/-- {}, to be a dict of the kind that is wanted -/
def tDNewK : TE := fun _ H Q => ∀ p, H p = none → Q (.ref p) (upd H p (.dK []))
def tDNewT : TE := fun _ H Q => ∀ p, H p = none → Q (.ref p) (upd H p (.dT []))
section
variable {X : Cx} {pos : Pos}
theorem pe_dnewK : PE X (.Dict [] [] pos) tDNewK := fun pins s σ H Q I h =>
  wpAny_Dict_empty ⟨.ref s.heap.objs.size, _, I.laid (a := s.heap.objs.size) (o := .dK []) (t' := s.toks) (fun _ _ q => Heap.get?_push_of_some _ q) (Nat.le_refl _) (dk_empty s.heap I.big), rfl, h _ (I.hok.fresh (Nat.le_refl _))⟩
theorem pe_dnewT : PE X (.Dict [] [] pos) tDNewT := fun pins s σ H Q I h =>
  wpAny_Dict_empty ⟨.ref s.heap.objs.size, _, I.laid (a := s.heap.objs.size) (o := .dT []) (t' := s.toks) (fun _ _ q => Heap.get?_push_of_some _ q) (Nat.le_refl _) (dt_empty s.heap I.big), rfl, h _ (I.hok.fresh (Nat.le_refl _))⟩
end

/-! ### methods -/
structure M2 (X : Cx) (o : Expr) (m : Str) (apos : Pos) (e f : Expr) (cpos : Pos) : Prop where
  base : attributeBase o m X.env (eval o X.env) = eval o X.env
  few : ((backTo cpos (starEach [e, f] X.env)).all (fun x => !x.1) && (backToKw cpos (keywordEach [] X.env)).all (fun x => x.1.isSome)
    && decide (([e, f] : List Expr).length + ([] : List Keyword).length + (if ([] : List Keyword).isEmpty then 0 else 1) < 30)) = true
  line : (apos.endLine == cpos.line) = true
  trees : backTo cpos (starEach [e, f] X.env) = [(false, eval e X.env), (false, eval f X.env)]

/-- a is a dict, whatever its keys -/
def IsD (H : Hp) (a : Addr) : Prop := (∃ kvs, Rd H a (.dK kvs)) ∨ ∃ kvs, Rd H a (.dT kvs)
theorem isD_at {X : Cx} {pins : List (Addr × Obj)} {σ : St} {H : Hp} {s : Shared} {a : Addr} (I : Inv X pins σ H s) (d : IsD H a) :
    s.TypeIs (.ref a) "dict" ∧ (∀ b, Value.ref a = .ref b → ∃ ob, s.heap.get? b = some ob ∧ ob.dict = none) ∧ (a == sysModules) = false := by
  rcases d with ⟨kvs, e⟩ | ⟨kvs, e⟩
  · obtain ⟨_, hd, vs, _, dd⟩ := dk_rd I.hok e
    refine ⟨dd.typeIs, fun b q => ?_, hd⟩
    cases q
    obtain ⟨ob, _, _, h1, h2, _⟩ := dd
    exact ⟨ob, h1, h2.2.1⟩
  · obtain ⟨_, hd, xs, _, dd⟩ := dt_rd I.hok e
    refine ⟨dd.typeIs, fun b q => ?_, hd⟩
    cases q
    obtain ⟨ob, _, _, h1, h2, _⟩ := dd
    exact ⟨ob, h1, h2.2.1⟩

section
variable {X : Cx} {pins : List (Addr × Obj)} {σ : St} {H : Hp} {s : Shared} {a : Addr} {y d : V} {u r : Value} {o : Option V} {A : Around} {E : Value → Shared → Prop}
/-- d.get(y, x) -/
theorem d_get2 {Q : Value → Shared → Prop} (hu : A.units + 1 < cLine) (I : Inv X pins σ H s) (g : DGet H a y o) (ry : RelV y u) (rd : RelV d r) (h : ∀ w' s', Inv X pins σ H s' → RelV (o.getD d) w' → Q w' s') :
    wpAny (model X.prog X.w) A (call (.builtin "dict.get") [.ref a, u, r]) Q E s := by
  rcases g with ⟨kvs, k, e, ey, l⟩ | ⟨kvs, k, b, e, ey, eb, l⟩
  · subst ey
    obtain ⟨z, hd, vs, rel, dd⟩ := dk_rd I.hok e
    refine call_meetsIn PySem.F.slot_dict_get dd.typeIs PySem.F.entry_dict_get (PySem.F.args_dict_get_3 _ _ _) (meets_dict_get_default (mixKind X.prog X.w) a (kV_is ry) hd r) ⟨_, dd.mapOf, h _ _ (I.tok _) ?_⟩
    rw [l]
    exact (rel.val k).getD rd
  · subst ey
    cases (show u = Value.ref b from ry)
    obtain ⟨z, hd, xs, rel, dd⟩ := dt_rd I.hok e
    refine call_meetsIn PySem.F.slot_dict_get dd.typeIs PySem.F.entry_dict_get (PySem.F.args_dict_get_3 _ _ _) (meetsH_dict_get_default (tupleKind (mixKind X.prog X.w)) a b hd r) ⟨tupleKind_room_in1 hu, k, xs, key_of I.hok eb, dd, h _ _ (I.tok _) ?_⟩
    rw [l]
    exact (rel.val k).getD rd
end

def tDGet2 (td ty tx : TE) : TE := fun σ H Q => td σ H fun x H1 => ∃ a, x = .ref a ∧ IsD H1 a ∧ ty σ H1 fun y H2 => tx σ H2 fun z H3 => ∃ o, DGet H3 a y o ∧ Q (o.getD z) H3
section
variable {X : Cx} {o e f : Expr} {apos cpos : Pos} {td ty tx : TE}
theorem pe_dget2 (hu : X.A.units + 1 < cLine) (ho : PE X o td) (he : PE X e ty) (hf : PE X f tx) (m : M2 X o "get" apos e f cpos) : PE X (.Call (.Attribute o "get" apos) [e, f] [] cpos) (tDGet2 td ty tx) := by
  intro pins s σ H Q I h
  refine wpAny_Call_method m.base m.few m.line PySem.F.plainAttrs_dict PySem.F.slot_dict_get PySem.F.type_dict_get (thn (ho pins s σ H _ I h) fun u s1 ⟨x, H1, I1, rx, a, ex, d, q1⟩ => ?_)
  subst ex
  obtain rfl : u = Value.ref a := rx
  obtain ⟨t1, t2, _⟩ := isD_at I1 d
  refine ⟨t1, t2, ?_⟩
  rw [m.trees]
  refine Calls.callWith_builtin rfl (Calls.evalArgs_plain (Calls.spliced_cons (thn (he pins s1 σ H1 _ I1 q1) fun iv s2 ⟨y, H2, I2, ry, q2⟩ =>
    Calls.spliced_cons (thn (hf pins s2 σ H2 _ I2 q2) fun fv s3 ⟨z, H3, I3, rz, ov, g, q3⟩ => Calls.spliced_nil ?_))))
  exact d_get2 hu I3 g ry rz fun w' s4 I4 rw' => ⟨_, H3, I4, rw', q3⟩
end

/-! ### dict(d): a copy -/
section
variable {X : Cx} {pins : List (Addr × Obj)} {σ : St} {H : Hp} {s : Shared} {a : Addr} {kvs : List (Key × V)} {A : Around} {E : Value → Shared → Prop}
end


section
variable {X : Cx} {pins : List (Addr × Obj)} {σ : St} {H : Hp} {s : Shared} {a : Addr} {y : V} {u : Value} {A : Around} {E : Value → Shared → Prop}
end
end L2

namespace Att
open PySem PySem.W PySem.Calls PyProof.Rows

/-! ### the script -/
theorem ints_of_wellAll {P : Params} {h : Heap} : ∀ (ns : List Int) (vs : List Value), WellAll P h vs (ns.map WData.int) → IntsAre vs ns := by
  intro ns
  induction ns with
  | nil =>
    intro vs w
    rw [List.map_nil] at w
    cases w
    exact .nil
  | cons n ns ih =>
    intro vs w
    rw [List.map_cons] at w
    cases w with
    | cons a b =>
      cases a
      exact .cons _ _ (ih _ b)

theorem script_of {l : OpenLaw} {n : Nat} (hn : l.most = some n) {P : Params} {h : Heap} {args : List WData} {vals : List Value}
    (hpre : l.row.toRowW.claim.pre args = true) (hwl : WellAll P h vals args) :
    ∃ a vs ns, vals = [Value.ref a] ∧ args = [WData.list (ns.map WData.int)] ∧ h.get? a = some { cls := .type "list", data := .seq vs.toArray } ∧ IntsAre vs ns ∧ ns.length ≤ n := by
  have hsh : WShape.hasAll [] args [.list .int] = true := (pre_splitW hpre).1
  have hc : l.pre.holds [] { args := args } = true := (pre_splitW hpre).2
  obtain ⟨d, r, rfl, h1, h2⟩ := hasAllW_cons hsh
  obtain rfl := hasAllW_nil h2
  obtain ⟨xs, rfl, h3⟩ := hasW_list h1
  obtain ⟨ns, rfl⟩ := items_int h3
  have hlen : ns.length ≤ n := by
    unfold OpenLaw.pre at hc
    have h4 : (WTm.not (.lt (.lit (.int (n : Int))) (.len (.arg 0)))).holds [] { args := [.list (ns.map .int)] } = true := by
      have h4 := (holds_andW hc).1
      rw [hn] at h4
      exact h4
    have h5 := condW_of h4 (w_not (w_lt w_lit (w_len_list (w_arg rfl))))
    rw [List.length_map] at h5
    refine Nat.le_of_not_lt fun q => ?_
    have q' : (n : Int) < ((ns.length : Nat) : Int) := by omega
    first
      | (rw [decide_eq_true q'] at h5; exact absurd h5 (by decide))
      | (simp at h5; omega)
  cases hwl with
  | cons w1 w2 =>
    cases w2
    cases w1 with
    | list ho hall => exact ⟨_, _, ns, rfl, rfl, ho, ints_of_wellAll ns _ hall, hlen⟩

theorem post_true (l : OpenLaw) (args : List WData) : l.row.toRowW.claim.post args (.bool true) args = true :=
  postW_of (r := l.row.toRowW) (X := (true == true))
    (show WShape.has [] (.bool true) .bool = true by first | rfl | decide | simp [WShape.has, WShape.arms, WShape.armsAll])
    (show (WTm.eq .res (.lit (.bool true))).value [] { args := args, res := some (.bool true), after := args } = some (.bool (true == true)) from w_eq_bool (w_res rfl) w_lit) rfl

/-! ### the attachment: holds_open's last premise (the goal 'hc' behind k_head) from a wpAny of the law's body -/
/-- the same from a codeAny of the CALL (for a layer whose function contracts speak of calls) -/
theorem attach_call {l : OpenLaw} {n : Nat} {q : Program} {loose : List Str} {XP : (Str → Option Value) → Heap → Prop} {YP : World → Heap → Prop} {d : DefRec}
    (hn : l.most = some n) (hdf : d.params.defaults = [])
    (call : ∀ (w : World) (s₀ s₁ : Shared) (mg mb : Str → Option Value) (fa : Addr) (o : Obj) (pm cd doc : Value) (a : Addr) (vs : List Value) (ns : List Int),
      Ground q loose [] XP w s₀ mg mb s₁.heap → YP w s₁.heap →
      s₁.heap.get? fa = some o → o.data = .func (docDef d.name d.params d.body d.scope pm cd doc) → s₁.heap.CodeRec cd d.name → mg d.name = some (.ref fa) →
      s₁.heap.get? a = some { cls := .type "list", data := .seq vs.toArray } → IntsAre vs ns → ns.length ≤ n → s₁.gens = #[] →
      codeAny (model l.prog w) callerA (.call (.ref fa) ⟨[.ref a], []⟩) (fun r s' => r = .ok (.ret (.bool true)) ∧ OldK s₁.heap s'.heap ∧ s'.os = s₁.os ∧ AllBare s'.gens) s₁) :
    WalkO q loose XP YP l.row.toRowW d [] (fun f vs => PySem.call f vs) := by
  intro w s₀ s₁ mg mb G Y fa o pm cd doc dV kV ho hd hcd hD hmg hg args vals as hpre hlay hrd hwl hlo
  obtain rfl : dV = .none := Dflts.none hD hdf
  obtain rfl : kV = .none := Dflts.noKw hD
  obtain ⟨a, vs, ns, rfl, rfl, hobj, hints, hlen⟩ := script_of hn hpre hwl
  refine enter_call (codeAny_mono (call w s₀ s₁ mg mb fa o pm cd doc a vs ns G Y ho (fd_plain hd) hcd hmg hobj hints hlen hg) fun r s' hq => ?_)
  obtain ⟨rfl, h2, h3, h4⟩ := hq
  exact ⟨.inl ⟨.bool true, .bool true, [], rfl, fun _ => rfl, .bool true, post_true l _, fun _ => ⟨List.Pairwise.nil, fun _ hm => (nomatch hm)⟩⟩, h2, h3, h4⟩

/-! ### rules over ANY heap (no ledger) from facts about the written part K: the library's own take a ledger (News) for what they write -/
section
variable {prog : Program} {w : World} {A : Around} {E : Value → Shared → Prop} {s : Shared} {K : Frag}

/-! the whole heap as the ledger: makes every rule that writes through a ledger a rule over any heap -/
def ledger (h : Heap) (L d : Addr) : List (Addr × Obj) := (List.range h.objs.size).filterMap fun a => if a = L ∨ a = d then none else (h.get? a).map fun o => (a, o)
end
end Att

namespace L2
open PySem PySem.Spec PyProof.Rows

theorem vals_ints {vs : List Value} {ns : List Int} (h : IntsAre vs ns) : Vals (ns.map V.int) vs := by
  induction h with
  | nil => exact .nil
  | cons n t h ih => exact .cons ⟨t, rfl⟩ ih

/-- nothing is tracked but the script, known to the object (or it is an object of the module) -/
def Only (H : Hp) : Prop := ∀ b, H b = none ∨ ∃ o xs, H b = some (.frz o (.lst xs))

/-- THE HEAD: the law's promise, at the heap behind the top. F, the promise of the law's def, may use that base is part of the heap (so K.In base, base.Ns mainGlobals mg stand in Mod) -/
theorem law_call {P : Program} {w : World} {K : PySem.W.Frag} {mg mb : Str → Option Value} {CX : CXT} {k : Nat} {fa a : Addr} {fd : FuncData} {x : Str} {sp : Sp} {s₁ : Shared} {vs : List Value} {ns : List Int}
    (KX : K.In s₁.heap) (hns : s₁.heap.Ns mainGlobals mg) (hb : s₁.heap.Ns builtinsNs mb) (hbb : ∀ x : Str, x ≠ "__name__" → mb x = bootBuiltins x) (hlim : s₁.heap.NoLimit) (hg : s₁.gens = #[])
    (ha : s₁.heap.get? a = some { cls := .type "list", data := .seq vs.toArray }) (hi : IntsAre vs ns) (hl : ns.length ≤ sizeLine) (hr : Room k callerA)
    (F : ∀ base : Heap, K.In base → base.Ns mainGlobals mg → FnOk P w K mg base CX k fa fd [x] sp) (hbind : ∀ (s : Shared) (u : Value), BindsTo s fd ⟨[u], []⟩ [(x, u)])
    (hsp : ∀ H : Hp, Only H → SqL K H a (ns.map V.int) → sp [.ref a] H (fun v _ => v = .bl true) fun _ _ _ => False)
    (hCX : ∀ H e s', CX [] H s₁ (fun _ _ _ => False) e s' → False) :
    codeAny (model P w) callerA (.call (.ref fa) ⟨[.ref a], []⟩) (fun r s' => r = .ok (.ret (.bool true)) ∧ OldK s₁.heap s'.heap ∧ s'.os = s₁.os ∧ AllBare s'.gens) s₁ := by
  have rv := vals_ints hi
  have lenV := hi.length
  -- from an abstract heap in which nothing but the script may be tracked
  have core : ∀ H : Hp, Only H → SqL K H a (ns.map V.int) → HOk P w H s₁.heap → (∀ b, H b ≠ none → b = a) → (H a ≠ none → K.lookup a = none) →
      codeAny (model P w) callerA (.call (.ref fa) ⟨[.ref a], []⟩) (fun r s' => r = .ok (.ret (.bool true)) ∧ OldK s₁.heap s'.heap ∧ s'.os = s₁.os ∧ AllBare s'.gens) s₁ := by
    intro H hO hS hok hA hK
    have base_of : ∀ {b : Addr} {o : Obj}, s₁.heap.get? b = some o → H b = none → (hidT s₁.heap H).get? b = some o := fun e n => hidT_get e n
    have noA : ∀ {b : Addr} {o : Obj} {es : Array DictEntry} {ep : Nat}, s₁.heap.get? b = some o → o.data = .dict es ep → H b = none := fun {b o es ep} e d => by
      cases q : H b with
      | none => rfl
      | some u =>
        have e' : b = a := hA b (by rw [q]; simp)
        subst e'
        rw [ha] at e; cases e
        have d' : Data.seq vs.toArray _ = Data.dict es ep := d
        cases d'
    have nsK : ∀ {b : Addr} {m : Str → Option Value}, s₁.heap.Ns b m → (hidT s₁.heap H).Ns b m := fun {b m} ⟨o, es, ep, e, d, r⟩ => ⟨o, es, ep, base_of e (noA e d), d, r⟩
    have hKb : K.In (hidT s₁.heap H) := fun b o e => base_of (KX b o e) (by
      cases q : H b with
      | none => rfl
      | some u =>
        have e' : b = a := hA b (by rw [q]; simp)
        subst e'
        rw [hK (by rw [q]; simp)] at e; cases e)
    have hM : Mod K mg (hidT s₁.heap H) := ⟨hKb, nsK hns, ⟨mb, nsK hb, hbb⟩, let ⟨mc, h1, h2⟩ := hlim; ⟨mc, nsK h1, h2⟩⟩
    have e0 : Env0 P w K mg (hidT s₁.heap H) callerA [] s₁ H := ⟨rfl, hM, fun b o e => of_hidT e, Nat.le_of_eq (hidT_size _ _), trivial, fun b hb => absurd (show b ∈ ([] : List Addr) from hb) (by simp), hok, .of_eq hg⟩
    refine codeAny_mono ((F _ hKb (nsK hns)).run callerA [] s₁ H ⟨[.ref a], []⟩ [.ref a] [.ref a] _ _ hr e0 (hbind s₁ (.ref a)) (.cons rfl .nil) (hsp H hO hS)) fun r s' h => ?_
    cases r with
    | error e => exact (hCX H e s' h).elim
    | ok fl =>
      cases fl with
      | next => exact False.elim h
      | brk => exact False.elim h
      | cont => exact False.elim h
      | ret u =>
        obtain ⟨v, H', os, bare, un, hok', r', q⟩ := h
        have q' : v = .bl true := q
        subst q'
        obtain rfl : u = Value.bool true := r'
        refine ⟨rfl, OldK.of_keep fun b o e => ?_, os, bare⟩
        cases q : H b with
        | none => exact un.keep b o e q (by intro z; exact absurd (show b ∈ ([] : List Addr) from z) (by simp)) (by simp)
        | some u =>
          rcases hO b with z | ⟨ob, xs, z⟩
          · rw [q] at z; cases z
          · have z2 := un.frzs b ob _ z
            obtain ⟨e1, _⟩ := hok b _ z
            obtain ⟨e2, _⟩ := hok' b _ z2
            rw [e] at e1; cases e1
            exact e2
  cases hk : K.lookup a with
  | some o =>
    -- the script is one of the module's own objects
    have e := KX a o hk
    rw [ha] at e
    cases e
    refine core (fun _ => none) (fun _ => .inl rfl) (.inr ⟨_, vs.toArray, _, hk, rfl, rfl, rfl, by rw [List.size_toArray, lenV]; exact hl, by simpa using rv⟩) (fun b u z => by have z' : (none : Option HO) = some u := z; cases z') (fun b z => absurd rfl z) fun z => absurd rfl z
  | none =>
    refine core (fun b => if b = a then some (.frz { cls := .type "list", data := .seq vs.toArray } (.lst (ns.map V.int))) else none) (fun b => ?_) (.inl (.inr ⟨{ cls := .type "list", data := .seq vs.toArray }, if_pos rfl⟩)) (fun b u z => ?_) (fun b z => ?_) fun _ => hk
    · by_cases hb : b = a
      · exact .inr ⟨_, _, if_pos hb⟩
      · exact .inl (if_neg hb)
    · by_cases hb : b = a
      · have z' := (if_pos hb).symm.trans z
        cases z'
        subst hb
        exact ⟨ha, by rw [List.length_map]; exact hl, vs, _, rv, ha⟩
      · have z' := (if_neg hb).symm.trans z
        cases z'
    · by_cases hb : b = a
      · exact hb
      · exact absurd (if_neg hb) z
end L2

namespace L2
open PySem PySem.Spec PyProof.Rows

abbrev KOf {K : PySem.W.Frag} {h : Heap} (_ : K.In h) : PySem.W.Frag := K

/-- the goal that k_head leaves (case hc), from the law's promise. F gives the function object fd (K's own) once, then the promise over every base -/
theorem walk_of {l : PySem.W.OpenLaw} {n k : Nat} {q : Program} {loose : List Str} {XP : (Str → Option Value) → Heap → Prop} {YP : World → Heap → Prop} {d : DefRec} {K : Params → PySem.W.Frag} {CX : World → CXT} {sp : World → Sp} {x : Str}
    (hn : l.most = some n) (hn2 : n ≤ sizeLine) (hdf : d.params.defaults = []) (hr : Room k callerA)
    (hY : ∀ (w : World) (h : Heap), YP w h → (K w.params).In h)
    (F : ∀ (w : World) (mg : Str → Option Value) (fa : Addr) (h : Heap), (K w.params).In h → h.Ns mainGlobals mg → mg d.name = some (.ref fa) →
      ∃ fd : FuncData, (∀ (s : Shared) (u : Value), BindsTo s fd ⟨[u], []⟩ [(x, u)]) ∧
        ∀ base : Heap, (K w.params).In base → base.Ns mainGlobals mg → FnOk l.prog w (K w.params) mg base (CX w) k fa fd [x] (sp w))
    (hsp : ∀ (w : World) (H : Hp) (a : Addr) (ns : List Int), ns.length ≤ n → Only H → SqL (K w.params) H a (ns.map V.int) → sp w [.ref a] H (fun v _ => v = .bl true) fun _ _ _ => False)
    (hCX : ∀ (w : World) (H : Hp) (s : Shared) (e : Value) (s' : Shared), CX w [] H s (fun _ _ _ => False) e s' → False) :
    PySem.W.WalkO q loose XP YP l.row.toRowW d [] (fun f vs => PySem.call f vs) := by
  refine Att.attach_call hn hdf fun w s₀ s₁ mg mb fa o pm cd doc a vs ns G Y ho hd hcd hmg hobj hints hlen hg => ?_
  have KX := hY w _ Y
  obtain ⟨fd, hb, hF⟩ := F w mg fa _ KX G.T.g hmg
  exact law_call KX G.T.g G.T.b G.T.builtins G.T.nolimit hg hobj hints (Nat.le_trans hlen hn2) hr hF hb (fun H hO hS => hsp w H a ns hlen hO hS) fun H e s' => hCX w H s₁ e s'
end L2

/- THE LAST THEOREM (shape; LID, My.* are yours):
   My.Adr: a structure of the addresses that your layer names (classes, functions); My.Txt K t: a structure (Prop) of the equations over K;
   My.txt_mk : {K} {implicit addresses ..} (e1 : nsIn K mainGlobals "law" = some (some (.ref f))) (e2 : K.lookup f = some ⟨oc, od, .func (fnOf "law" "law" params body scope dV kV doc pm an cdv ct), sl⟩) (e3 : codeIn K cdv "law" = true) .. : ∃ t, My.Txt K t

set_option maxRecDepth 100000 in
set_option maxHeartbeats 0 in
theorem PySem.Challenge.cw_LID_holds : PySem.Challenge.rw_LID.Holds := by
  w_on; o_law; k_head; (case hw => w_witness2)
  k_fill
  refine L2.walk_of (l := PySem.Challenge.rw_LID) (n := 63) (k := 40) (x := "script") (CX := fun w => ..) (sp := fun _ => My.sp_law) rfl (by decide) rfl ⟨rfl, by decide, by decide⟩ (fun w h Y => PySem.W.kIn_of Y) ?F ?S ?C
  case F =>
    intro w mg fa h KX G hmg
    have T : ∃ t, My.Txt (L2.KOf KX) t := by
      dsimp only [L2.KOf]                          -- K must stand as «<heap const> w.params» for k_is
      refine' My.txt_mk ?e1 ?e2 ?e3 ..
      (case e1 => PySem.W.k_is)                    -- in the order: a name -> its address -> its object -> its parts
      (case e2 => PySem.W.k_is)
      ..
    obtain ⟨t, T⟩ := T
    have e0 := hmg.symm.trans (PySem.W.mg_of KX G T.law)
    cases e0                                       -- fa is the law's own address
    exact ⟨_, fun s u => .of_eq rfl, fun base kb nb => My.law_fn T kb nb⟩     -- if «.of_eq rfl» comes too early: refine' ⟨_, ?b, fun base kb nb => My.law_fn T kb nb⟩; exact fun s u => .of_eq rfl
  case S => exact fun w H a ns hl hO hS => ..
  case C => exact ..
(the tactic k_is has no namespace: write k_is) -/

/-! SHORT WORDS over the layer: a def of the text, its body, what a loop and a test want. -/
namespace L2
open PySem PySem.Spec PyProof.Rows

/-! ### the text by places -/
/-- the j-th statement of a class's body -/
def inClass (s : Stmt) (j : Nat) : Stmt := match s with
  | .ClassDef _ _ _ body _ _ _ _ _ _ _ => body.getD j (.Pass ⟨0, 0, 0, 0⟩)
  | _ => .Pass ⟨0, 0, 0, 0⟩
def defArgs (s : Stmt) : Arguments := match s with
  | .FunctionDef _ a _ _ _ _ _ _ _ _ => a
  | _ => { posonlyargs := [], args := [], vararg := none, kwonlyargs := [], kw_defaults := [], kwarg := none, defaults := [] }
def defBody (s : Stmt) : List Stmt := match s with
  | .FunctionDef _ _ b _ _ _ _ _ _ _ => b
  | _ => []
def defScope (s : Stmt) : Scope := match s with
  | .FunctionDef _ _ _ _ _ _ sc _ _ _ => sc
  | _ => { kind := .function, names := [], isGenerator := false, isCoroutine := false }

/-! ### no exception leaves a def -/
abbrev CX0 : CXT := fun _ _ _ _ _ _ => False
abbrev E0 : XK := fun _ _ _ => False
theorem pass0 {X : Cx} : Passes CX0 X E0 := fun _ _ _ _ _ _ _ h => h.elim

/-! ### a def (or method) of the text as it stands behind the top -/
structure Fun (K : PySem.W.Frag) (x qual : Str) (st : Stmt) (f : Addr) (fd : FuncData) : Prop where
  ex : ∃ (oc : Value) (od : Option Addr) (kV doc pm : Value) (an : Option Addr) (cdv ct : Value) (osl : Array (Option Value)),
    fd = PySem.W.fnOf x qual (defArgs st) (defBody st) (defScope st) .none kV doc pm an cdv ct ∧ K.lookup f = some ⟨oc, od, .func fd, osl⟩ ∧ PySem.W.codeIn K cdv qual = true
  kp : PySem.W.keepIn K (.ref f) = true
section
variable {P : Program} {w : World} {K : PySem.W.Frag} {mg : Str → Option Value} {base : Heap}
/-- THE RULE for a def: its body as a term of rules, and the reading of that term -/
theorem Fun.ok {x qual : Str} {st : Stmt} {f : Addr} {fd : FuncData} {N ps : List Str} {k : Nat} {sp : Sp} (F : Fun K x qual st f fd) (S : FnScope N ps (defScope st)) (len : ∀ vs H Q E, sp vs H Q E → vs.length = ps.length)
    (hbody : ∀ (cdv : Value) (A : Around) (outer : List Env) (s : Shared) (H : Hp) (vs : List V) (Q : VK) (E : XK), Room k (A.deeper (envOfC qual (defScope st) s.heap.objs.size f cdv)) → sp vs H Q E →
      ∃ t, PSs (cxOf CX0 P w K mg base N qual (defScope st) f cdv A outer s H E).nox (defBody st) t ∧ t { nx := fun _ H' => Q .non H', rt := Q } (start N vs) H) : FnOk P w K mg base CX0 (k + 1) f fd ps sp := by
  obtain ⟨oc, od, kV, doc, pm, an, cdv, ct, osl, rfl, lk, hcd⟩ := F.ex
  refine fn_of lk hcd S len fun A outer s H vs Q E hr hsp => ?_
  obtain ⟨t, h, q⟩ := hbody cdv A outer s H vs Q E hr hsp
  exact ⟨t, h.nox, q⟩
/-- how its arguments bind (no defaults): h is «fun _ _ _ _ _ _ us hl => match us, hl with | [_, _], _ => rfl», one _ a parameter -/
theorem Fun.binds {x qual : Str} {st : Stmt} {f : Addr} {fd : FuncData} {ps : List Str} (F : Fun K x qual st f fd)
    (h : ∀ (kV doc pm : Value) (an : Option Addr) (cdv ct : Value) (us : List Value), us.length = ps.length → bindArgs (PySem.W.fnOf x qual (defArgs st) (defBody st) (defScope st) .none kV doc pm an cdv ct) ⟨us, []⟩ = pure (ps.zip us)) : Binds K fd ps [] := by
  obtain ⟨oc, od, kV, doc, pm, an, cdv, ct, osl, rfl, lk, hcd⟩ := F.ex
  exact .all (h kV doc pm an cdv ct)
theorem fun_mk {x qual : Str} {st : Stmt} {f : Addr} {oc : Value} {od an : Option Addr} {osl : Array (Option Value)} {kV doc pm cdv ct : Value} (l : K.lookup f = some ⟨oc, od, .func (PySem.W.fnOf x qual (defArgs st) (defBody st) (defScope st) .none kV doc pm an cdv ct), osl⟩)
    (c : PySem.W.codeIn K cdv qual = true) (k : PySem.W.keepIn K (.ref f) = true) : Fun K x qual st f (PySem.W.fnOf x qual (defArgs st) (defBody st) (defScope st) .none kV doc pm an cdv ct) := ⟨⟨oc, od, kV, doc, pm, an, cdv, ct, osl, rfl, l, c⟩, k⟩
end
theorem hu_of {A : Around} {k : Nat} (hr : Room k A) : A.units + 1 < cLine := Nat.lt_of_le_of_lt (Nat.add_le_add_left (by decide : 1 ≤ 64) _) hr.units
/-! ### expressions in short: the name that stands in the i-th slot -/
section
variable {X : Cx}
theorem pv (i : Nat) {x : Str} {pos : Pos} (hN : X.N[i]? = some x := by rfl) (hv : Vis X.env.scope x := by first | exact Or.inl rfl | exact Or.inr (Or.inl rfl) | exact Or.inr (Or.inr rfl)) (hd : (x == ("__debug__" : Str)) = false := by decide)
    (hcd : (x == ("__classdict__" : Str)) = false := by decide) : PE X (.Name x pos) (tVar i) := pe_var hN hv hd hcd
end

/-! ### tests -/
theorem iteF {A B : Prop} (h : B) : if false = true then A else B := by
  rw [if_neg Bool.false_ne_true]
  exact h
theorem iteT {A B : Prop} (h : A) : if true = true then A else B := by
  rw [if_pos rfl]
  exact h
theorem ite2 {c A B : Prop} [Decidable c] (h1 : c → A) (h2 : ¬ c → B) : if c then A else B := by
  by_cases h : c
  · rw [if_pos h]
    exact h1 h
  · rw [if_neg h]
    exact h2 h
theorem iteNS {c A B : Prop} [Decidable c] (hc : c) (h : B) : if (!decide c) = true then A else B := by
  rw [decide_eq_true hc]
  exact iteF h

/-! ### heaps -/
/-- all that was tracked is as it was -/
def Same (H H' : Hp) : Prop := ∀ b o, H b = some o → H' b = some o
theorem Same.refl (H : Hp) : Same H H := fun _ _ h => h
theorem Same.trans {H H1 H2 : Hp} (a : Same H H1) (b : Same H1 H2) : Same H H2 := fun c o h => b c o (a c o h)
theorem Same.free {H H' : Hp} (e : Same H H') {l : Addr} (h : H' l = Option.none) : H l = Option.none := by
  cases q : H l with
  | none => rfl
  | some o =>
    rw [e l o q] at h
    cases h
theorem Same.seq {K : PySem.W.Frag} {H H' : Hp} {a : Addr} {xs : List V} (e : Same H H') (h : SqL K H a xs) : SqL K H' a xs := by
  rcases h with (h | ⟨o, h⟩) | h
  · exact .inl (.inl (e _ _ h))
  · exact .inl (.inr ⟨o, e _ _ h⟩)
  · exact .inr h

/-! ### a dict's pairs: keys that differ -/
section
variable {κ : Type} [DecidableEq κ]
end
end L2

set_option Elab.async false
set_option linter.all false
set_option maxRecDepth 100000
set_option maxHeartbeats 4000000
namespace L2
open PySem PySem.Spec PyProof.Rows

theorem natlt {a n : Addr} (h : a < n) : @LT.lt Nat _ a n := h
/-! ### a comprehension's block -/
/-- the cells that a block takes along -/
def clOf (env : Env) : List (Str × NameKind) → List (Str × Addr) → List (Str × Addr)
  | [], acc => acc
  | (n, k) :: r, acc => if k == .free then clOf env r ((n, (env.cells.lookup n).getD 0) :: acc) else clOf env r acc
theorem closure_eq {env : Env} {scope : Scope} (h : ∀ y ∈ scope.names, y.2 = .free → (env.cells.lookup y.1).isSome = true) : closureFor scope env = pure (clOf env scope.names []) := by
  have go : ∀ (ns : List (Str × NameKind)) (acc : List (Str × Addr)), (∀ y ∈ ns, y.2 = .free → (env.cells.lookup y.1).isSome = true) →
      (forIn ns acc (fun x cs => match x with | (name, kind) => if (kind == .free) = true then do let c ← cellOf env name; pure (ForInStep.yield ((name, c) :: cs)) else pure (ForInStep.yield cs)) : Sem (List (Str × Addr))) = pure (clOf env ns acc) := by
    intro ns
    induction ns with
    | nil => intro acc _; rfl
    | cons y r ih =>
      intro acc hy
      obtain ⟨n, k⟩ := y
      rw [List.forIn_cons]
      by_cases hk : k = .free
      · subst hk
        have hs := hy (n, .free) List.mem_cons_self rfl
        obtain ⟨c, hc⟩ := Option.isSome_iff_exists.mp hs
        have e : cellOf env n = pure c := by unfold cellOf; rw [hc]
        show _ = pure (clOf env r ((n, (env.cells.lookup n).getD 0) :: acc))
        rw [← ih _ fun y hm => hy y (List.mem_cons_of_mem _ hm)]
        simp only [beq_self_eq_true, if_true, e, pure_bind, hc, Option.getD_some]
      · have hb : (k == NameKind.free) = false := by simpa using hk
        have hc : clOf env ((n, k) :: r) acc = clOf env r acc := by
          show (if (k == NameKind.free) = true then _ else _) = _
          rw [if_neg (by rw [hb]; decide)]
        rw [hc, ← ih _ fun y hm => hy y (List.mem_cons_of_mem _ hm)]
        simp only [hb, Bool.false_eq_true, if_false, pure_bind]
  have q := go scope.names [] h
  unfold closureFor
  show (forIn scope.names [] _ >>= fun r => pure r) = _
  rw [bind_pure]
  exact q
theorem clOf_lookup {env : Env} : ∀ (ns : List (Str × NameKind)) (acc : List (Str × Addr)) (x : Str), (∀ y ∈ ns, y.2 = .free → (env.cells.lookup y.1).isSome = true) →
    (clOf env ns acc).lookup x = if (x, NameKind.free) ∈ ns then env.cells.lookup x else acc.lookup x
  | [], acc, x, _ => by simp [clOf]
  | (n, k) :: r, acc, x, h => by
    have hr : ∀ y ∈ r, y.2 = .free → (env.cells.lookup y.1).isSome = true := fun y hm => h y (List.mem_cons_of_mem _ hm)
    by_cases hk : k = .free
    · subst hk
      show (clOf env r ((n, (env.cells.lookup n).getD 0) :: acc)).lookup x = _
      rw [clOf_lookup r _ x hr]
      obtain ⟨c, hc⟩ := Option.isSome_iff_exists.mp (h (n, .free) List.mem_cons_self rfl)
      have hc : env.cells.lookup n = some c := hc
      by_cases hm : (x, NameKind.free) ∈ r
      · rw [if_pos hm, if_pos (List.mem_cons_of_mem _ hm)]
      · rw [if_neg hm]
        by_cases e : x = n
        · subst e
          rw [if_pos List.mem_cons_self, List.lookup_cons, hc]
          simp
        · rw [if_neg (fun z => (List.mem_cons.mp z).elim (fun q => e (congrArg Prod.fst q)) hm), List.lookup_cons]
          have : (x == n) = false := by simpa using e
          rw [this]
    · have hb : (k == NameKind.free) = false := by simpa using hk
      have hc : clOf env ((n, k) :: r) acc = clOf env r acc := by
        show (if (k == NameKind.free) = true then _ else _) = _
        rw [if_neg (by rw [hb]; decide)]
      rw [hc, clOf_lookup r acc x hr]
      have : ((x, NameKind.free) ∈ (n, k) :: r) ↔ (x, NameKind.free) ∈ r := by
        constructor
        · intro z
          rcases List.mem_cons.mp z with q | q
          · exact absurd (congrArg Prod.snd q).symm hk
          · exact q
        · exact List.mem_cons_of_mem _
      simp only [this]

theorem relabel_lookup (env : Env) : ∀ (ns : List (Str × NameKind)) (x : Str),
    (ns.map fun (n, k) => if (k == .free && env.scope.kind == .function && env.kindOf n == some .cell) then (n, NameKind.cell) else (n, k)).lookup x =
      (ns.lookup x).map fun k => if (k == .free && env.scope.kind == .function && env.kindOf x == some .cell) = true then NameKind.cell else k
  | [], x => rfl
  | (n, k) :: r, x => by
    show List.lookup x ((if (k == NameKind.free && env.scope.kind == .function && env.kindOf n == some .cell) = true then (n, NameKind.cell) else (n, k)) :: _) = _
    cases hx : x == n with
    | true =>
      have e : x = n := by simpa using hx
      subst e
      by_cases hc : (k == NameKind.free && env.scope.kind == .function && env.kindOf x == some .cell) = true
      · rw [if_pos hc]; simp only [List.lookup_cons, hx, Option.map_some, if_pos hc]
      · rw [if_neg hc]; simp only [List.lookup_cons, hx, Option.map_some, if_neg hc]
    | false =>
      have ih := relabel_lookup env r x
      by_cases hc : (k == NameKind.free && env.scope.kind == .function && env.kindOf n == some .cell) = true
      · rw [if_pos hc]; simp only [List.lookup_cons, hx]; exact ih
      · rw [if_neg hc]; simp only [List.lookup_cons, hx]; exact ih

/-- the block's names: its own first, then those that it takes along: the outer names at the places caps -/
structure CompScope (N own : List Str) (caps : List Nat) (XN : List Str) (outer scope : Scope) : Prop where
  kind : scope.kind = .function
  nocell : ∀ y ∈ scope.names, y.2 ≠ .cell
  names : ∀ y ∈ scope.names, y.2 = .local → scope.names.lookup y.1 = some .local
  free : ∀ y ∈ scope.names, y.2 = .free → outer.names.lookup y.1 = some .cell ∨ outer.names.lookup y.1 = some .free
  nd : N.Nodup
  len : N.length = own.length + caps.length
  cap : ∀ (j : Nat), j < caps.length → N[own.length + j]? = XN[caps.getD j 0]? ∧ ∃ x, N[own.length + j]? = some x ∧ (x, NameKind.free) ∈ scope.names ∧ scope.names.lookup x = some .free

def st0 (own : List Str) (caps : List Nat) (σ : St) : St := own.map (fun _ => none) ++ caps.map (fun i => (σ[i]?).join)

def cxComp (X : Cx) (scope : Scope) (C : Addr) (N : List Str) (s : Shared) (H : Hp) (fp : List Addr) : Cx :=
  { X with N := N, s₀ := s, H₀ := H, env := compEnvC scope (clOf X.env scope.names []) C X.env, outer := X.stack, ex := fp, fn := fun _ => false, pn := [], xe := fun _ _ => False }

section
variable {X : Cx} {pins : List (Addr × Obj)} {σ : St} {H : Hp} {s : Shared} {scope : Scope} {N own : List Str} {caps : List Nat} {fp : List Addr} {C : Nat}
theorem CompScope.csome (S : CompScope N own caps X.N X.env.scope scope) (ok : X.Ok) : ∀ y ∈ scope.names, y.2 = .free → (X.env.cells.lookup y.1).isSome = true := fun y hy hf => by
  obtain ⟨c, e⟩ := ok.has y.1 (S.free y hy hf)
  rw [e]; rfl
theorem CompScope.csub (S : CompScope N own caps X.N X.env.scope scope) (ok : X.Ok) {x : Str} {c : Addr} (h : (clOf X.env scope.names []).lookup x = some c) : X.env.cells.lookup x = some c := by
  rw [clOf_lookup _ _ _ (S.csome ok)] at h
  split at h
  · exact h
  · simp at h
theorem CompScope.lookFree {S : CompScope N own caps X.N X.env.scope scope} {x : Str} (h : (relabel scope X.env).names.lookup x = some .cell ∨ (relabel scope X.env).names.lookup x = some .free) : (x, NameKind.free) ∈ scope.names := by
  have e := relabel_lookup X.env scope.names x
  have e' : (relabel scope X.env).names.lookup x = (scope.names.lookup x).map fun k => if (k == .free && X.env.scope.kind == .function && X.env.kindOf x == some .cell) = true then NameKind.cell else k := e
  rw [e'] at h
  cases q : scope.names.lookup x with
  | none => rw [q] at h; simp at h
  | some k =>
    have hm := PySem.mem_of_lookup q
    by_cases hk : k = .free
    · subst hk; exact hm
    · rw [q] at h
      have hb : (k == NameKind.free) = false := by simpa using hk
      simp only [Option.map_some, hb, Bool.false_and, Bool.false_eq_true, if_false] at h
      rcases h with h | h
      · exact absurd (Option.some.inj h) (S.nocell _ hm)
      · exact absurd (Option.some.inj h) hk

/-- the block's context is in order, and its names stand -/
theorem Inv.comp {h1 : Heap} {D : Nat} (I : Inv X pins σ H s) (S : CompScope N own caps X.N X.env.scope scope) (hfp : ∀ b ∈ fp, FpOk X pins H b) (hfo : ∀ b ∈ fp, ∃ o, s.heap.get? b = some o)
    (hD : D = s.heap.objs.size) (hC : C = s.heap.objs.size + 1) (old : ∀ b o, s.heap.get? b = some o → h1.get? b = some o) (hns : h1.Ns C (fun _ => none)) (hl : h1.get? D = some { cls := .type "list", data := .seq #[] }) {t : Nat} :
    Inv (cxComp X scope C N s H fp) [] (st0 own caps σ) (upd H D (.lst [])) { s with heap := h1, toks := t } := by
  have some' := S.csome I.ok
  have sub : ∀ {x c}, (clOf X.env scope.names []).lookup x = some c → X.env.cells.lookup x = some c := fun h => S.csub I.ok h
  have freshD : H D = none := I.hok.fresh (by rw [hD]; exact Nat.le_refl _)
  have freshC : H C = none := I.hok.fresh (by rw [hC]; exact Nat.le_succ _)
  have cellLt : ∀ x c, X.env.cells.lookup x = some c → c < s.heap.objs.size := fun x c e => by
    obtain ⟨v, z⟩ := I.cell x c e
    exact z.lt
  have fpLt : ∀ b ∈ fp, b < s.heap.objs.size := fun b hb => by
    obtain ⟨o, e⟩ := hfo b hb
    exact Heap.lt_size e
  have DC : D ≠ C := by omega
  refine ⟨⟨I.ok.mod, S.kind, I.ok.glob, I.ok.blt, by show s.heap.objs.size ≤ C; omega, fun x y c e1 e2 => I.ok.inj x y c (sub e1) (sub e2), fun x h => ?_, fun x c h => (by cases h), I.ok.hd, I.ok.frames, Or.inl rfl, fun b hb => ⟨?_, fun x c e => ?_⟩, I.bs, Nat.le_trans I.ok.bsz I.sz, fun b o e hb => ?_, fun b hb z => ?_, I.stack, I.stkFree⟩,
    rfl, I.bare, Un.laid old (by show s.heap.objs.size ≤ D; omega) freshD, ⟨_, hns, fun j x v e1 e2 e3 => ?_⟩, fun x c e => ?_, ?_, fun x c e => ?_, fun p hp => ?_, I.hok.laid old (by omega) ?_, ?_⟩
  · have hm := CompScope.lookFree (S := S) (X := X) h
    obtain ⟨c, e⟩ := Option.isSome_iff_exists.mp (some' _ hm rfl)
    exact ⟨c, by show (clOf X.env scope.names []).lookup x = _; rw [clOf_lookup _ _ _ some', if_pos hm]; exact e⟩
  · exact Nat.ne_of_lt (show @LT.lt Nat _ b C by have := natlt (fpLt b hb); omega)
  · exact (hfp b hb).2.2.2.2.1 x c (sub e)
  · rcases (hfp b hb).2.2.2.1 with z | z
    · exact I.ok.noex b o e z
    · exact absurd (Nat.lt_of_lt_of_le (Heap.lt_size e) (Nat.le_trans I.ok.bsz z)) (Nat.lt_irrefl _)
  · rcases List.mem_cons.mp (I.stkSub b z) with q | q
    · exact (hfp b hb).2.1 q
    · exact (hfp b hb).2.2.1 q
  · have e1 : N[j]? = some x := e1
    have hj : own.length ≤ j := by
      by_cases q : own.length ≤ j
      · exact q
      · exfalso
        unfold st0 at e2
        rw [List.getElem?_append_left (by simp; omega), List.getElem?_map] at e2
        cases r : own[j]? with
        | none => rw [r] at e2; cases e2
        | some a => rw [r] at e2; cases e2
    have hjl : j < N.length := (List.getElem?_eq_some_iff.mp e1).1
    have hjc : j - own.length < caps.length := by have := S.len; omega
    obtain ⟨c1, x', c2, c3, c4⟩ := S.cap (j - own.length) hjc
    rw [show own.length + (j - own.length) = j by omega] at c1 c2
    rw [e1] at c2
    cases c2
    have e2' : (σ[caps.getD (j - own.length) 0]?).join = some v := by
      unfold st0 at e2
      rw [List.getElem?_append_right (by simp; omega), List.getElem?_map, List.length_map] at e2
      rw [List.getD_eq_getElem?_getD]
      cases r : caps[j - own.length]? with
      | none => rw [r] at e2; cases e2
      | some a => rw [r] at e2; exact Option.some.inj e2
    have e2'' : σ[caps.getD (j - own.length) 0]? = some (some v) := by
      cases r : σ[caps.getD (j - own.length) 0]? with
      | none => rw [r] at e2'; cases e2'
      | some a => rw [r] at e2'; exact congrArg Option.some e2'
    have kx : X.env.kindOf x = some .cell ∨ X.env.kindOf x = some .free := S.free _ c3 rfl
    obtain ⟨m, hn, hl'⟩ := I.loc
    obtain ⟨u, r, l⟩ := hl' _ x v (by rw [← c1]; exact e1) e2'' (by rcases kx with z | z; exact .inr (.inl z); exact .inr (.inr z))
    refine ⟨u, r, .inr ⟨?_, ?_⟩⟩
    · show (relabel scope X.env).names.lookup x = some .cell ∨ (relabel scope X.env).names.lookup x = some .free
      have e : (relabel scope X.env).names.lookup x = (scope.names.lookup x).map fun k => if (k == .free && X.env.scope.kind == .function && X.env.kindOf x == some .cell) = true then NameKind.cell else k := relabel_lookup X.env scope.names x
      rw [e, c4, Option.map_some]
      split
      · exact .inl rfl
      · exact .inr rfl
    · rcases l with ⟨hk, _⟩ | ⟨_, c, hc, z⟩
      · rcases kx with q | q <;> rw [hk] at q <;> cases q
      · refine ⟨c, ?_, ?_⟩
        · show (clOf X.env scope.names []).lookup x = _
          rw [clOf_lookup _ _ _ some', if_pos c3]; exact hc
        · obtain ⟨o, ho, hd⟩ := z
          exact ⟨o, old c o ho, hd⟩
  · obtain ⟨v, o, ho, hd⟩ := I.cell x c (sub e)
    exact ⟨v, o, old c o ho, hd⟩
  · show upd H D (.lst []) C = none
    rw [upd_ne DC.symm]; exact freshC
  · show upd H D (.lst []) c = none
    rw [upd_ne (Nat.ne_of_lt (by have := natlt (cellLt x c (sub e)); omega))]; exact I.freeC x c (sub e)
  · cases hp
  · exact ⟨Nat.zero_le _, [], 0, .nil, hl⟩
  · show (own.map (fun _ => none) ++ caps.map _).length = N.length
    rw [List.length_append, List.length_map, List.length_map, S.len]

/-- behind the block -/
theorem Inv.uncomp {pins' : List (Addr × Obj)} {σ' : St} {H' : Hp} {s' : Shared} {h' : Heap} (I : Inv X pins σ H s) (hfp : ∀ b ∈ fp, FpOk X pins H b) (hC : s.heap.objs.size ≤ C) (J : Inv (cxComp X scope C N s H fp) pins' σ' H' s') (hs : Heap.SameBut C s'.heap h') :
    Inv X pins σ H' { s' with heap := h' } := by
  have nC : ∀ b o, s.heap.get? b = some o → b ≠ C := fun b o e => Nat.ne_of_lt (by have := natlt (Heap.lt_size e); omega)
  have u := J.base
  have frC : H' C = none := J.free
  refine I.call' (ch := fp) (s' := { s' with heap := h' }) J.os ⟨fun b o e n hb hx => ?_, fun b o e n hb hx => ?_, u.free, fun b o e hx => ?_, u.tups, u.frzs, u.tbls⟩ (fun a o e => (J.hok a o e).stay (fun b v hb q => ?_) (fun _ q => q) fun _ _ q => q) J.bare fun b hb => ?_
  · exact (hs.2 b (nC b o e)).trans (u.keep b o e n hb hx)
  · obtain ⟨sl, q⟩ := u.slot b o e n hb hx
    exact ⟨sl, (hs.2 b (nC b o e)).trans q⟩
  · obtain ⟨o', q⟩ := u.there b o e hx
    exact ⟨o', (hs.2 b (nC b o e)).trans q⟩
  · refine (hs.2 b ?_).trans q
    intro z
    subst z
    rcases hb with z | z
    · subst z; rw [frC] at e; cases e
    · rw [frC] at z; cases z
  · exact ⟨(hfp b hb).2.2.2.1, (hfp b hb).2.1, (hfp b hb).2.2.2.2.1, (hfp b hb).2.2.2.2.2⟩
end

section
variable {prog : Program} {w : World} {A : Around} {R : Result → Shared → Prop} {s : Shared}
theorem compLoop_any {elt target iter : Expr} {ifs : List Expr} {scope : Scope} {pos : Pos} {it acc : Value} {env : Env} (I : Nat → Shared → Prop)
    (turn : ∀ n s, I n s → wpAny (model prog w) A (pyNext it) (fun r s1 => match r with
      | none => R (.ok .next) s1
      | some v => wpAny (model prog w) A (letOwnedTupleGo target it v) (fun _ s1' => wpAny (model prog w) A (assign target env v) (fun _ s2 =>
          wpAny (model prog w) A (forIn ifs true fun c r => if r = true then do let ok ← isTrue c env (eval c env); pure (ForInStep.yield ok) else pure (ForInStep.yield r)) (fun ok s3 =>
            if ok = true then wpAny (model prog w) A (eval elt env) (fun x s4 =>
              wpAny (model prog w) A (call (.builtin "list.append") [acc, x]) (fun _ s5 => ∃ m, m < n ∧ I m s5) (fun _ _ => False) s4) (fun _ _ => False) s3
            else ∃ m, m < n ∧ I m s3) (fun _ _ => False) s2) (fun _ _ => False) s1') (fun _ _ => False) s1) (fun _ _ => False) s)
    (n : Nat) (h : I n s) :
    codeAny (model prog w) A (.compLoop (.ListComp elt [⟨target, iter, ifs, 0⟩] scope pos) 0 it acc env) R s := by
  refine codeAny_loop rfl I (fun n s hI => ?_) n h
  show wpAny _ A ((compTurn (.ListComp elt [⟨target, iter, ifs, 0⟩] scope pos) 0 it acc env).onRaise (fun x => do noteFrame x env; theTreesLotGoes x)) _ _ s
  refine wpAny_noted ?_
  rw [compTurn_list]
  refine wpAny_bind (wpAny_standAt (wpAny_bind (wpAny_mono (turn n s hI) (fun r s1 h1 => ?_) fun _ _ h' => h'.elim)))
  cases r with
  | none => exact wpAny_pure h1
  | some v =>
    refine wpAny_bind (wpAny_mono h1 (fun _ s1' h1' => ?_) fun _ _ h' => h'.elim)
    refine wpAny_bind (wpAny_mono h1' (fun _ s2 h2 => wpAny_bind (wpAny_mono h2 (fun ok s3 h3 => ?_) fun _ _ h' => h'.elim)) fun _ _ h' => h'.elim)
    cases ok with
    | false => exact wpAny_pure ⟨rfl, h3⟩
    | true =>
      exact wpAny_bind (wpAny_bind (wpAny_mono h3 (fun x s4 h4 => wpAny_bind (wpAny_mono h4 (fun _ s5 h5 => wpAny_pure (wpAny_pure ⟨rfl, h5⟩)) fun _ _ h' => h'.elim)) fun _ _ h' => h'.elim))
end

/-- the tests of a comprehension -/
def PTs (X : Cx) (ifs : List Expr) (t : TT) : Prop :=
  ∀ (pins : List (Addr × Obj)) (s : Shared) (σ : St) (H : Hp) (Q : Bool → Hp → Prop), Inv X pins σ H s → t σ H Q →
    wpAny (model X.prog X.w) X.A (forIn ifs true fun c r => if r = true then do let ok ← isTrue c X.env (eval c X.env); pure (ForInStep.yield ok) else pure (ForInStep.yield r)) (TP X pins σ Q) X.xe s
def tAll : TT := fun _ H Q => Q true H
theorem pts_nil {X : Cx} : PTs X [] tAll := fun _ _ _ H _ I h => wpAny_tests_nil ⟨H, I, h⟩
theorem pts_one {X : Cx} {c : Expr} {t : TT} (h : PT X c t) : PTs X [c] t := fun pins s σ H Q I q => wpAny_tests_one (h pins s σ H Q I q)

/-- [e for target in iter if c]: W between two turns; the list grows at D; N: what the turn is to reach -/
def CompW (J : It) (g : TG) (tc : TT) (te : TE) (Q : VK) (D : Addr) (σ0 : St) (H1 : Hp) : Prop :=
  ∃ W : Nat → Nat → St → Hp → Prop, (∃ m, W 0 m σ0 (upd H1 D (.lst []))) ∧ ∀ i m σ H, W i m σ H →
    (J.stop i H ∧ Q (.ref D) H) ∨ (J.go i H ∧ ∃ N : St → Hp → Prop, (∀ σ' H', N σ' H' → ∃ m', m' < m ∧ W (i + 1) m' σ' H') ∧ ∀ x H', J.yld i H x H' → g x σ H' fun σ2 H2 => tc σ2 H2 fun b H3 =>
      if b = true then te σ2 H3 fun y H4 => ∃ acc, H4 D = some (.lst acc) ∧ acc.length < sizeLine ∧ N σ2 (upd H4 D (.lst (acc ++ [y]))) else N σ2 H3)
def tComp (own : List Str) (caps : List Nat) (wi : TI) (g : TG) (tc : TT) (te : TE) : TE := fun σ H Q => wi σ H fun J H1 => ∀ D, H1 D = none → CompW J g tc te Q D (st0 own caps σ) H1

section
variable {X : Cx} {elt tg iter : Expr} {ifs : List Expr} {scope : Scope} {pos : Pos} {N own : List Str} {caps : List Nat} {wi : TI} {g : TG} {tc : TT} {te : TE}
/-- the block run: from the iterator to the list -/
theorem comp_run {use : Option (Value → Sem Unit)} {Qv : Value → Shared → Prop} {pins : List (Addr × Obj)} {σ : St} {H : Hp} {s : Shared} {Q : VK} (hc : X.calm = true) (S : CompScope N own caps X.N X.env.scope scope)
    (hg : ∀ C s H fp, PG (cxComp X scope C N s H fp) tg g) (hcs : ∀ C s H fp, PTs (cxComp X scope C N s H fp) ifs tc) (he : ∀ C s H fp, PE (cxComp X scope C N s H fp) elt te)
    (hi : PI X tg iter wi) (hs : ∀ x, foldedSetIterable iter X.env x = pure x)
    (I : Inv X pins σ H s) (h : tComp own caps wi g tc te σ H Q)
    (fin : ∀ (D C : Addr) (H' : Hp) (s' : Shared), (∃ m, s'.heap.Ns C m) → Inv X pins σ H' s' → (∀ h', Heap.SameBut C s'.heap h' → Inv X pins σ H' { s' with heap := h' }) → FpOk X pins H' C → Q (.ref D) H' →
      compPost (model X.prog X.w) X.A X.xe use Qv (.ref D) C (.ok .next) s') :
    wpAny (model X.prog X.w) X.A (comprehension (.ListComp elt [⟨tg, iter, ifs, 0⟩] scope pos) scope X.env (firstIterPos [⟨tg, iter, ifs, 0⟩] pos) (newList []) false (eval iter X.env) use) Qv X.xe s := by
  refine wpAny_comprehension_free (use := use) rfl hs (closure_eq (S.csome I.ok)) S.kind S.names (thn (hi pins s σ H _ I h) fun xv s1 h1 => thn h1 fun itv s2 h2 => ?_)
  obtain ⟨it, fp, tn, J, H2, e, I2, T, st2, f2, q2⟩ := h2
  subst e
  refine wpAny_newList ?_
  refine wpAny_newFunctionEnv S.nocell (by intro y hy; simp at hy) (fun h1 hns1 hsb1 => ?_) S.kind
  dsimp only at hns1 hsb1 ⊢
  have hD : H2 s2.heap.objs.size = none := I2.hok.fresh (Nat.le_refl _)
  have hsz : (s2.heap.push { cls := .type "list", data := .seq ([] : List Value).toArray }).objs.size = s2.heap.objs.size + 1 := Heap.size_push ..
  have old : ∀ b o, s2.heap.get? b = some o → h1.get? b = some o := fun b o e => by
    refine hsb1.extBut b o (Nat.ne_of_lt (by have := natlt (Heap.lt_size e); rw [hsz]; omega)) (Heap.get?_push_of_some _ (Heap.get?_push_of_some _ e))
  have hl : h1.get? s2.heap.objs.size = some { cls := .type "list", data := .seq #[] } :=
    hsb1.extBut _ _ (Nat.ne_of_lt (by rw [hsz]; omega)) (Heap.get?_push_of_some _ (Heap.get?_push_size _ rfl))
  have hfo : ∀ b ∈ fp, ∃ o, s2.heap.get? b = some o := fun b hb => let ⟨o, e, _⟩ := T.obj _ _ st2 b hb; ⟨o, e⟩
  have I4 := Inv.comp (C := (s2.heap.push { cls := .type "list", data := .seq ([] : List Value).toArray }).objs.size) (t := s2.toks + ([] : List (Str × Value)).length) I2 S f2 hfo rfl hsz old hns1 hl
  obtain ⟨W, ⟨m0, w0⟩, turn⟩ := q2 _ hD
  generalize hCe : (s2.heap.push { cls := .type "list", data := .seq ([] : List Value).toArray }).objs.size = C at *
  generalize hDe : s2.heap.objs.size = D at *
  have hDC : D ≠ C := by omega
  -- the loop
  have loop : ∀ s3 : Shared, s3 = { s2 with heap := h1, toks := s2.toks + ([] : List (Str × Value)).length } →
      codeAny (model X.prog X.w) X.A (.compLoop (.ListComp elt [⟨tg, iter, ifs, 0⟩] scope pos) 0 (.ref it) (.ref D) (cxComp X scope C N s2 H2 fp).env) (compPost (model X.prog X.w) X.A X.xe use Qv (.ref D) C) s3 := by
    rintro s3 rfl
    have frz : ∀ b ∈ fp, (upd H2 D (.lst [])) b = none := fun b hb => by
      obtain ⟨o, e⟩ := hfo b hb
      rw [upd_ne (Nat.ne_of_lt (by have := natlt (Heap.lt_size e); omega))]
      exact (f2 b hb).1
    have stat : ∀ {H' : Hp}, (∀ b ∈ fp, H' b = none) → ∀ b ∈ fp, FpOk (cxComp X scope C N s2 H2 fp) [] H' b := fun hn b hb => by
      obtain ⟨o, e⟩ := hfo b hb
      have hlt := natlt (Heap.lt_size e)
      refine ⟨hn b hb, ?_, fun z => ?_, .inl hb, fun x c e' => (f2 b hb).2.2.2.2.1 x c (S.csub I2.ok e'), fun p hp => (by cases hp)⟩
      · exact Nat.ne_of_lt (show @LT.lt Nat _ b C by omega)
      · rcases List.mem_cons.mp (I2.stkSub b z) with q | q
        · exact (f2 b hb).2.1 q
        · exact (f2 b hb).2.2.1 q
    refine compLoop_any (fun n s' => ∃ i σ' H', Inv (cxComp X scope C N s2 H2 fp) [] σ' H' s' ∧ tn i s'.heap ∧ (∀ b ∈ fp, H' b = none) ∧ W i n σ' H') ?_ m0
      ⟨0, _, _, I4, T.keep _ _ _ st2 fun b _ o e => old b o e, frz, w0⟩
    rintro n s3 ⟨i, σ3, H3, I3, st3, fr3, w3⟩
    rcases turn i n σ3 H3 w3 with ⟨stop, qn⟩ | ⟨go, Nx, hNx, step⟩
    · refine thn (T.done (cxComp X scope C N s2 H2 fp) rfl rfl rfl hc i [] s3 σ3 H3 _ I3 (stat fr3) st3 stop) fun r s4 ⟨hr, J4⟩ => ?_
      subst hr
      obtain ⟨m4, hn4, _⟩ := J4.loc
      exact fin D C H3 s4 ⟨m4, hn4⟩ (I2.uncomp f2 (by omega) J4 (Heap.SameBut.refl _ _)) (fun h' hs' => I2.uncomp f2 (by omega) J4 hs') (I2.fpOk (show s2.heap.objs.size ≤ C by omega) J4.free) qn
    · refine thn (T.item (cxComp X scope C N s2 H2 fp) rfl rfl rfl hc i [] s3 σ3 H3 _ I3 (stat fr3) st3 go) fun r s4 ⟨u, hr, h4⟩ => ?_
      subst hr
      refine thn h4 fun _ s5 ⟨x, H5, I5, r5, y5, st5, fr5⟩ => ?_
      have I5' := I5.pinned (stat fr5) (T.obj _ _ st5)
      refine thn (hg C s2 H2 fp _ s5 σ3 H5 x u _ I5' r5 (step x H5 y5)) fun _ s6 ⟨σ6, H6, I6, q6⟩ => ?_
      refine thn (hcs C s2 H2 fp _ s6 σ6 H6 _ I6 q6) fun ok s7 ⟨H7, I7, q7⟩ => ?_
      have again : ∀ {σ8 : St} {H8 : Hp} {s8 : Shared}, Inv (cxComp X scope C N s2 H2 fp) ([] ++ pinsAt fp s5.heap) σ8 H8 s8 → Nx σ8 H8 → ∃ m, m < n ∧ ∃ i σ' H', Inv (cxComp X scope C N s2 H2 fp) [] σ' H' s8 ∧ tn i s8.heap ∧ (∀ b ∈ fp, H' b = none) ∧ W i m σ' H' := fun {σ8 H8 s8} I8 n8 => by
        obtain ⟨m', hm, w8⟩ := hNx _ _ n8
        refine ⟨m', hm, i + 1, σ8, H8, I8.unpinned, T.keep _ _ _ st5 fun b hb o e => (I8.pin (b, o) (List.mem_append_right _ (List.mem_append_right _ (mem_pinsAt hb e)))).1, fun b hb => ?_, w8⟩
        obtain ⟨o, e, d⟩ := T.obj _ _ st5 b hb
        exact (I8.pin (b, o) (List.mem_append_right _ (List.mem_append_right _ (mem_pinsAt hb e)))).2.1
      cases ok with
      | false =>
        rw [if_neg (by decide)] at q7
        exact again I7 q7
      | true =>
        rw [if_pos rfl] at q7
        refine thn (he C s2 H2 fp _ s7 σ6 H7 _ I7 q7) fun y s8 ⟨yv, H8, I8, r8, acc, ha, hlen, q8⟩ => ?_
        exact thn (mt_append _ s8 σ6 H8 (.ref D) [yv] (.ref D) [y] (fun v H9 => Nx σ6 H9) I8 rfl (.cons r8 .nil) ⟨D, acc, yv, rfl, rfl, ha, hlen, q8⟩) fun _ s9 ⟨_, H9, I9, _, q9⟩ => again I9 q9
  exact codeAny_compStart_list (loop _ rfl) (T.self _ 0 _ _ _ (T.keep _ _ _ st2 fun b _ o e => old b o e) (loop _ rfl))

theorem pe_comp (hc : X.calm = true) (S : CompScope N own caps X.N X.env.scope scope) (hi : PI X tg iter wi)
    (hg : ∀ C s H fp, PG (cxComp X scope C N s H fp) tg g) (hcs : ∀ C s H fp, PTs (cxComp X scope C N s H fp) ifs tc) (he : ∀ C s H fp, PE (cxComp X scope C N s H fp) elt te)
    (hs : ∀ x, foldedSetIterable iter X.env x = pure x := by intro _; rfl) : PE X (.ListComp elt [⟨tg, iter, ifs, 0⟩] scope pos) (tComp own caps wi g tc te) := by
  intro pins s σ H Q I h
  rw [eval_ListComp]
  refine comp_run (use := none) hc S hg hcs he hi hs I h ?_
  intro D C H' s' hn I' hk _ q
  obtain ⟨m, hn⟩ := hn
  exact ⟨m, hn, fun h' hs' => ⟨.ref D, H', hk h' hs', rfl, q⟩⟩
/-- x = [e for ..] on one row: the name is stored ahead of the block's names being let go -/
theorem ps_setC {i : Nat} {x : Str} {px sp : Pos} (hc : X.calm = true) (hN : X.N.Nodup) (hx : X.N[i]? = some x) (hl : Loc X.env.scope x) (S : CompScope N own caps X.N X.env.scope scope) (hi : PI X tg iter wi)
    (hg : ∀ C s H fp, PG (cxComp X scope C N s H fp) tg g) (hcs : ∀ C s H fp, PTs (cxComp X scope C N s H fp) ifs tc) (he : ∀ C s H fp, PE (cxComp X scope C N s H fp) elt te)
    (hsw : swapsWith (.ListComp elt [⟨tg, iter, ifs, 0⟩] scope pos) (some (.Name x px)) sp.line X.env = pure true := by rfl)
    (hs : ∀ x, foldedSetIterable iter X.env x = pure x := by intro _; rfl) (hf : X.fn x = true ∨ X.env.scope.names.lookup x = some .local := by first | exact .inl rfl | exact .inr rfl | assumption) :
    PS X (.Assign [.Name x px] (.ListComp elt [⟨tg, iter, ifs, 0⟩] scope pos) sp) (tAsg (tComp own caps wi g tc te) (gName i)) := by
  intro pins s σ H D I h
  rw [exec_Assign_Name_used _ _ _ _ hsw]
  refine wpAny_bind (wpAny_standAt (wpAny_bind ?_))
  show wpAny _ X.A (do let _ ← comprehension (.ListComp elt [⟨tg, iter, ifs, 0⟩] scope pos) scope X.env (firstIterPos [⟨tg, iter, ifs, 0⟩] pos) (newList []) false (eval iter X.env) (some (assign (.Name x px) X.env))) _ _ s
  refine wpAny_bind (wpAny_mono (comp_run (use := some (assign (.Name x px) X.env)) (Qv := fun _ s' => SP X pins D .next s') hc S hg hcs he hi hs I h ?_) (fun _ s' hq => wpAny_pure (wpAny_pure hq)) fun _ _ e => e)
  intro E C H' s' hn I' hk fC q
  obtain ⟨m, hn⟩ := hn
  obtain ⟨f0, f1, f2, f3, f4, f5⟩ := fC
  show wpAny _ X.A (assign (.Name x px) X.env (.ref E)) _ _ _
  refine wpAny_assign_Name (store_ok2 I' hN hx hl (v := .ref E) rfl (fun s2 I2 k => ?_) hf)
  refine ⟨m, ?_, fun h' hs' => ?_⟩
  · obtain ⟨o, es, ep, ho, r⟩ := hn
    obtain ⟨a, ks, ka⟩ := k
    have hCa : C ≠ a := fun z => by
      rcases ka with q' | q'
      · exact f1 (z.trans q')
      · exact f4 x a q' z.symm
    exact ⟨o, es, ep, (ks.2 C hCa).trans ho, r⟩
  · exact ⟨_, H', I2.turned (t' := s2.toks) (fun b o hb e => (hs'.2 b hb).trans e) f0 f1 f3 f4 f5, q⟩
end
/-- the names of a block, checked -/
def compOk (N own : List Str) (caps : List Nat) (XN : List Str) (outer scope : Scope) : Bool :=
  decide (scope.kind = .function) && scope.names.all (fun y => decide (y.2 ≠ .cell)) && scope.names.all (fun y => decide (y.2 ≠ .local) || decide (scope.names.lookup y.1 = some .local)) &&
  scope.names.all (fun y => decide (y.2 ≠ .free) || decide (outer.names.lookup y.1 = some .cell) || decide (outer.names.lookup y.1 = some .free)) && decide N.Nodup && decide (N.length = own.length + caps.length) &&
  (List.range caps.length).all (fun j => match N[own.length + j]? with | some x => decide (XN[caps.getD j 0]? = some x) && decide ((x, NameKind.free) ∈ scope.names) && decide (scope.names.lookup x = some .free) | none => false)
theorem CompScope.of {N own : List Str} {caps : List Nat} {XN : List Str} {outer scope : Scope} (h : compOk N own caps XN outer scope = true) : CompScope N own caps XN outer scope := by
  unfold compOk at h
  simp only [Bool.and_eq_true, decide_eq_true_eq, List.all_eq_true, Bool.or_eq_true] at h
  obtain ⟨⟨⟨⟨⟨⟨h1, h2⟩, h3⟩, h4⟩, h5⟩, h6⟩, h7⟩ := h
  refine ⟨h1, h2, fun y hy e => ?_, fun y hy e => ?_, h5, h6, fun j hj => ?_⟩
  · rcases h3 y hy with z | z
    · exact absurd e z
    · exact z
  · rcases h4 y hy with (z | z) | z
    · exact absurd e z
    · exact .inl z
    · exact .inr z
  · have q := h7 j (List.mem_range.mpr hj)
    cases e : N[own.length + j]? with
    | none => rw [e] at q; cases q
    | some x =>
      rw [e] at q
      simp only [Bool.and_eq_true, decide_eq_true_eq] at q
      exact ⟨q.1.1.symm, x, rfl, q.1.2, q.2⟩
end L2
set_option Elab.async false
set_option linter.all false
set_option maxRecDepth 100000
set_option maxHeartbeats 4000000
namespace L2
open PySem PySem.Spec PyProof.Rows

/-! ### plain data at a heap -/
mutual
def Dat (H : Hp) : V → PyData → Prop
  | v, .none => v = .non
  | v, .bool b => v = .bl b
  | v, .int i => v = .int i
  | v, .str x => v = .str x
  | v, .list ds => ∃ a vs, v = .ref a ∧ H a = some (.lst vs) ∧ Dats H vs ds
  | v, .tuple ds => ∃ a vs, v = .ref a ∧ H a = some (.tup vs) ∧ Dats H vs ds
  | _, .dict _ => False
def Dats (H : Hp) : List V → List PyData → Prop
  | [], [] => True
  | v :: vs, d :: ds => Dat H v d ∧ Dats H vs ds
  | [], _ :: _ => False
  | _ :: _, [] => False
end
section
variable {H H' : Hp}
theorem Dats.length : ∀ {vs : List V} {ds : List PyData}, Dats H vs ds → vs.length = ds.length
  | [], [], _ => rfl
  | _ :: _, _ :: _, h => by simp only [Dats] at h; simp [Dats.length h.2]
  | [], _ :: _, h => by simp only [Dats] at h
  | _ :: _, [], h => by simp only [Dats] at h
theorem Dats.get : ∀ {vs : List V} {ds : List PyData} {i : Nat} {v : V}, Dats H vs ds → vs[i]? = some v → ∃ d, ds[i]? = some d ∧ Dat H v d
  | _ :: _, _ :: _, 0, _, h, e => by simp only [Dats] at h; simp at e; subst e; exact ⟨_, rfl, h.1⟩
  | _ :: _, _ :: _, i + 1, _, h, e => by simp only [Dats] at h; simp at e; obtain ⟨d, q, r⟩ := Dats.get h.2 e; exact ⟨d, by simpa using q, r⟩
  | [], [], _, _, _, e => by simp at e
  | [], _ :: _, _, _, h, _ => by simp only [Dats] at h
  | _ :: _, [], _, _, h, _ => by simp only [Dats] at h
theorem Dats.append : ∀ {vs ws : List V} {ds es : List PyData}, Dats H vs ds → Dats H ws es → Dats H (vs ++ ws) (ds ++ es)
  | [], _, [], _, _, g => g
  | _ :: _, _, _ :: _, _, h, g => by simp only [Dats, List.cons_append] at h ⊢; exact ⟨h.1, Dats.append h.2 g⟩
  | [], _, _ :: _, _, h, _ => by simp only [Dats] at h
  | _ :: _, _, [], _, h, _ => by simp only [Dats] at h
theorem Dats.take : ∀ {vs : List V} {ds : List PyData} (n : Nat), Dats H vs ds → Dats H (vs.take n) (ds.take n)
  | _, _, 0, _ => by simp only [List.take_zero, Dats]
  | [], [], _ + 1, _ => by simp only [List.take_nil, Dats]
  | _ :: _, _ :: _, n + 1, h => by simp only [Dats, List.take_succ_cons] at h ⊢; exact ⟨h.1, Dats.take n h.2⟩
  | [], _ :: _, _ + 1, h => by simp only [Dats] at h
  | _ :: _, [], _ + 1, h => by simp only [Dats] at h
theorem Dats.drop : ∀ {vs : List V} {ds : List PyData} (n : Nat), Dats H vs ds → Dats H (vs.drop n) (ds.drop n)
  | _, _, 0, h => by simpa using h
  | [], [], _ + 1, _ => by simp only [List.drop_nil, Dats]
  | _ :: _, _ :: _, n + 1, h => by simp only [Dats, List.drop_succ_cons] at h ⊢; exact Dats.drop n h.2
  | [], _ :: _, _ + 1, h => by simp only [Dats] at h
  | _ :: _, [], _ + 1, h => by simp only [Dats] at h
theorem Dats.ints (ns : List Int) : Dats H (ns.map V.int) (ns.map PyData.int) := by
  induction ns with
  | nil => simp only [List.map_nil, Dats]
  | cons n r ih => simp only [List.map_cons, Dats, Dat]; exact ⟨trivial, ih⟩
mutual
theorem Dat.mono (hl : ∀ a xs, H a = some (HO.lst xs) → H' a = some (HO.lst xs)) (ht : ∀ a xs, H a = some (HO.tup xs) → H' a = some (HO.tup xs)) : ∀ (d : PyData) {v : V}, Dat H v d → Dat H' v d
  | .none, _, h => by simp only [Dat] at h ⊢; exact h
  | .bool _, _, h => by simp only [Dat] at h ⊢; exact h
  | .int _, _, h => by simp only [Dat] at h ⊢; exact h
  | .str _, _, h => by simp only [Dat] at h ⊢; exact h
  | .list ds, _, h => by simp only [Dat] at h ⊢; obtain ⟨a, vs, e, q, r⟩ := h; exact ⟨a, vs, e, hl _ _ q, Dats.mono hl ht ds r⟩
  | .tuple ds, _, h => by simp only [Dat] at h ⊢; obtain ⟨a, vs, e, q, r⟩ := h; exact ⟨a, vs, e, ht _ _ q, Dats.mono hl ht ds r⟩
  | .dict _, _, h => by simp only [Dat] at h
theorem Dats.mono (hl : ∀ a xs, H a = some (HO.lst xs) → H' a = some (HO.lst xs)) (ht : ∀ a xs, H a = some (HO.tup xs) → H' a = some (HO.tup xs)) : ∀ (ds : List PyData) {vs : List V}, Dats H vs ds → Dats H' vs ds
  | [], [], _ => by simp only [Dats]
  | d :: ds, v :: vs, h => by simp only [Dats] at h ⊢; exact ⟨Dat.mono hl ht d h.1, Dats.mono hl ht ds h.2⟩
  | _ :: _, [], h => by simp only [Dats] at h
  | [], _ :: _, h => by simp only [Dats] at h
end
mutual
/-- no list within -/
def imm : PyData → Bool
  | .tuple ds => imms ds
  | .list _ | .dict _ => false
  | .none | .bool _ | .int _ | .str _ => true
def imms : List PyData → Bool
  | [] => true
  | d :: ds => imm d && imms ds
end
mutual
theorem Dat.keep (ht : ∀ a xs, H a = some (HO.tup xs) → H' a = some (HO.tup xs)) : ∀ (d : PyData) {v : V}, imm d = true → Dat H v d → Dat H' v d
  | .none, _, _, h => by simp only [Dat] at h ⊢; exact h
  | .bool _, _, _, h => by simp only [Dat] at h ⊢; exact h
  | .int _, _, _, h => by simp only [Dat] at h ⊢; exact h
  | .str _, _, _, h => by simp only [Dat] at h ⊢; exact h
  | .list ds, _, i, h => by simp only [imm] at i; cases i
  | .tuple ds, _, i, h => by simp only [Dat] at h ⊢; simp only [imm] at i; obtain ⟨a, vs, e, q, r⟩ := h; exact ⟨a, vs, e, ht _ _ q, Dats.keep ht ds i r⟩
  | .dict _, _, _, h => by simp only [Dat] at h
theorem Dats.keep (ht : ∀ a xs, H a = some (HO.tup xs) → H' a = some (HO.tup xs)) : ∀ (ds : List PyData) {vs : List V}, imms ds = true → Dats H vs ds → Dats H' vs ds
  | [], [], _, _ => by simp only [Dats]
  | d :: ds, v :: vs, i, h => by simp only [Dats] at h ⊢; simp only [imms, Bool.and_eq_true] at i; exact ⟨Dat.keep ht d i.1 h.1, Dats.keep ht ds i.2 h.2⟩
  | _ :: _, [], _, h => by simp only [Dats] at h
  | [], _ :: _, _, h => by simp only [Dats] at h
end
theorem imms_map {α : Type} (f : α → PyData) (h : ∀ x, imm (f x) = true) : ∀ l : List α, imms (l.map f) = true
  | [] => rfl
  | a :: l => by simp only [List.map_cons, imms, h a, imms_map f h l, Bool.and_self]
end

section
variable {X : Cx} {pins : List (Addr × Obj)} {σ : St} {H : Hp} {s : Shared}
mutual
theorem Inv.reads (I : Inv X pins σ H s) : ∀ (d : PyData) {v : V} {u : Value}, Dat H v d → RelV v u → ∃ as, Reads s.heap u d as
  | .none, v, u, h, r => by
    simp only [Dat] at h; subst h; cases (show u = Value.none from r); exact ⟨_, .none⟩
  | .bool b, v, u, h, r => by
    simp only [Dat] at h; subst h; cases (show u = Value.bool b from r); exact ⟨_, .bool b⟩
  | .int i, v, u, h, r => by
    simp only [Dat] at h; subst h; obtain ⟨t, q⟩ := (show ∃ t, u = Value.int i t from r); cases q; exact ⟨_, .int i t⟩
  | .str x, v, u, h, r => by
    simp only [Dat] at h; subst h; obtain ⟨t, q⟩ := (show ∃ t, u = Value.str x t from r); cases q; exact ⟨_, .str x t⟩
  | .list ds, v, u, h, r => by
    simp only [Dat] at h
    obtain ⟨a, vs, rfl, q, g⟩ := h
    cases (show u = Value.ref a from r)
    obtain ⟨its, rv, p, hz⟩ := I.list (SqL.of q)
    obtain ⟨o, ho, hc, n, hd⟩ := p.isList
    obtain ⟨as, ra⟩ := Inv.readsAll I ds g rv
    exact ⟨_, .list ho hc hd (by simpa using ra)⟩
  | .tuple ds, v, u, h, r => by
    simp only [Dat] at h
    obtain ⟨a, vs, rfl, q, g⟩ := h
    cases (show u = Value.ref a from r)
    obtain ⟨its, rv, p, hz⟩ := I.tuple (SqT.of q)
    obtain ⟨o, ho, hc, n, hd⟩ := p
    obtain ⟨as, ra⟩ := Inv.readsAll I ds g rv
    exact ⟨_, .tuple ho hc hd (by simpa using ra)⟩
  | .dict _, _, _, h, _ => by simp only [Dat] at h
theorem Inv.readsAll (I : Inv X pins σ H s) : ∀ (ds : List PyData) {vs : List V} {us : List Value}, Dats H vs ds → Vals vs us → ∃ as, ReadsAll s.heap us ds as
  | [], [], _, _, .nil => ⟨_, .nil⟩
  | d :: ds, v :: vs, _, h, .cons r rs => by
    simp only [Dats] at h
    obtain ⟨as, ra⟩ := Inv.reads I d h.1 r
    obtain ⟨bs, rb⟩ := Inv.readsAll I ds h.2 rs
    exact ⟨_, .cons ra rb⟩
  | _ :: _, [], _, h, _ => by simp only [Dats] at h
  | [], _ :: _, _, h, _ => by simp only [Dats] at h
end
/-- == and != of data -/
def rEqD (neg : Bool) : R2 := fun x y H Q => ∃ d e, Dat H x d ∧ Dat H y e ∧ SeqAt.shaped d = true ∧ SeqAt.shaped e = true ∧ Q (.bl (if neg then !PyData.eqv d e else PyData.eqv d e)) H
theorem op_eqD (hu : X.A.units + 64 < cLine) : OpR X (compareOp .Eq) (rEqD false) := by
  intro pins s σ H x y v u Q I rx ry h
  obtain ⟨d, e, h1, h2, s1, s2, q⟩ := h
  obtain ⟨as, ra⟩ := I.reads d h1 rx
  obtain ⟨bs, rb⟩ := I.reads e h2 ry
  exact SeqAt.compareEq_shaped ra rb s1 s2 hu ⟨.bl _, H, I, rfl, q⟩
theorem op_neD (hu : X.A.units + 64 < cLine) : OpR X (compareOp .NotEq) (rEqD true) := by
  intro pins s σ H x y v u Q I rx ry h
  obtain ⟨d, e, h1, h2, s1, s2, q⟩ := h
  obtain ⟨as, ra⟩ := I.reads d h1 rx
  obtain ⟨bs, rb⟩ := I.reads e h2 ry
  exact SeqAt.compareNe_shaped ra rb s1 s2 hu ⟨.bl _, H, I, rfl, q⟩

/-! ### isinstance -/
/-- isinstance(x, c): c's value is known -/
theorem call_isi {c : Value} {cv : V} (rc : RelV cv c) : CallR X (.builtin "isinstance") (fun xs H Q => ∃ x t b, xs = [x, cv] ∧ TyOf X.K H x t ∧ PySem.W.kitOne X.K t c = some b ∧ Q (.bl b) H) := by
  intro pins s σ H xs us Q I r h
  obtain ⟨x, t, b, rfl, ty, e, q⟩ := h
  obtain ⟨u, w', rfl, r1, r2⟩ := vals2 r
  have : w' = c := by
    cases cv with
    | non => exact (show w' = Value.none from r2).trans (show c = Value.none from rc).symm
    | bl b => exact (show w' = Value.bool b from r2).trans (show c = Value.bool b from rc).symm
    | ref a => exact (show w' = Value.ref a from r2).trans (show c = Value.ref a from rc).symm
    | ty n => exact (show w' = Value.type n from r2).trans (show c = Value.type n from rc).symm
    | int i => obtain ⟨t1, rfl⟩ := (show ∃ t, c = Value.int i t from rc); unfold PySem.W.kitOne at e; exact absurd e (by cases ty <;> simp [PySem.W.kitCls])
    | str i => obtain ⟨t1, rfl⟩ := (show ∃ t, c = Value.str i t from rc); unfold PySem.W.kitOne at e; exact absurd e (by cases ty <;> simp [PySem.W.kitCls])
    | byt i => obtain ⟨t1, rfl⟩ := (show ∃ t, c = Value.bytes i t from rc); unfold PySem.W.kitOne at e; exact absurd e (by cases ty <;> simp [PySem.W.kitCls])
    | flt i => obtain ⟨t1, rfl⟩ := (show ∃ t, c = Value.float i t from rc); unfold PySem.W.kitOne at e; exact absurd e (by cases ty <;> simp [PySem.W.kitCls])
  subst this
  exact isinst_ok I r1 ty e fun tk => ⟨.bl b, H, I.tok _, rfl, q⟩
end

/-! ### all, any over a list of bools -/
section
variable {prog : Program} {w : World} {A : Around}
theorem walks_list (hh : A.handled = none) (it a : Addr) (hne : it ≠ a) (its : List Value) : Walks prog w A it [it, a] [it] its.length (fun i v => its[i]? = some v) (fun i h => h.IsListIter it a i ∧ h.IsList a its.toArray) where
  sub := by simp
  frame := fun i h h' ⟨s1, o, ho, hc⟩ k => ⟨s1.at fun o e => k it (by simp) o e, o, k a (by simp) o ho, hc⟩
  item := fun i s Q E hi ⟨s1, s2⟩ hQ => wpAny_pyNext_list_item s1 s2 (x := its[i]) (by simp [hi]) fun h' st' sb =>
    hQ _ h' s.toks (by simp [hi]) ⟨st', s2.extBut sb.extBut hne.symm⟩ fun b o hb e => (sb.2 b (by simpa using hb)).trans e
  done := fun s Q E ⟨s1, s2⟩ hQ => wpAny_pyNext_list_end hh s1 s2 (by simp) fun h' eb => hQ h' s.toks fun b o hb e => eb b o (by simpa using hb) e
  self := fun i s Q E ⟨s1, _⟩ hQ => wpAny_pyIter_listiter s1 hQ
end
section
variable {X : Cx}
theorem range_all_get (bs : List Bool) : (List.range bs.length).all (fun i => (bs[i]?).getD false) = bs.all id := by
  rw [Bool.eq_iff_iff, List.all_eq_true, List.all_eq_true]
  constructor
  · intro h b hb
    obtain ⟨i, hi, rfl⟩ := List.getElem_of_mem hb
    have := h i (by simpa using hi)
    simpa [hi] using this
  · intro h i hi
    have hi' : i < bs.length := by simpa using hi
    simpa [hi'] using h bs[i] (List.getElem_mem hi')
theorem vals_bools {bs : List Bool} : ∀ {us : List Value}, Vals (bs.map V.bl) us → us = bs.map Value.bool := by
  induction bs with
  | nil => intro us r; cases r; rfl
  | cons b bs ih =>
    intro us r
    cases r with
    | cons r rs => cases (show _ = Value.bool b from r); rw [ih rs]; rfl
theorem call_all_bools (hc : X.calm = true) : CallR X (.builtin "all") (fun xs H Q => ∃ (p : Addr) (bs : List Bool), xs = [.ref p] ∧ SqL X.K H p (bs.map V.bl) ∧ Q (.bl (bs.all id)) H) := by
  intro pins s σ H xs us Q I r h
  obtain ⟨p, bs, rfl, hq, q⟩ := h
  obtain ⟨u, rfl, rx⟩ := vals1 r
  cases rx
  obtain ⟨its, rv, pl, hz⟩ := I.list hq
  have e := vals_bools rv
  have hlen : its.length = bs.length := by rw [e, List.length_map]
  refine call_all_walk (wpAny_pyIter_list pl.isList ⟨s.heap.objs.size, [s.heap.objs.size, p], [s.heap.objs.size], its.length, _, _, fun i => (bs[i]?).getD false, rfl,
    walks_list (show X.A.in1.handled = none from I.ok.hd hc) s.heap.objs.size p ?_ its, ⟨⟨_, Heap.get?_push_size _ rfl, rfl, rfl⟩, ?_⟩, ?_, ?_⟩)
  · intro z
    obtain ⟨o, ho, _⟩ := pl.isList
    have := Heap.lt_size ho
    rw [← z] at this
    exact Nat.lt_irrefl _ this
  · obtain ⟨o, ho, hcl⟩ := pl.isList
    exact ⟨o, Heap.get?_push_of_some _ ho, hcl⟩
  · intro i v s1 Q1 E1 hP hQ
    rw [e, List.getElem?_map] at hP
    cases r : bs[i]? with
    | none => rw [r] at hP; cases hP
    | some b =>
      rw [r] at hP
      cases hP
      simp only [r, Option.getD_some] at hQ
      exact wpAny_truthy_bool hQ
  · intro h' tk k
    rw [hlen, range_all_get]
    have f := I.fpOk (H' := H) (b := s.heap.objs.size) (Nat.le_refl _) (I.hok.fresh (Nat.le_refl _))
    have I2 : Inv X pins σ H { s with heap := h', toks := tk } := I.turned (h' := h') (t' := tk) (it := s.heap.objs.size) (fun b o hb e => k b o (by simpa using hb) (Heap.get?_push_of_some _ e)) f.1 f.2.1 f.2.2.2.1 f.2.2.2.2.1 f.2.2.2.2.2
    exact ⟨.bl _, H, I2, rfl, q⟩
end
end L2
set_option Elab.async false
set_option linter.all false
set_option maxRecDepth 100000
set_option maxHeartbeats 4000000
namespace L2
open PySem PySem.Spec PyProof.Rows

/-! ### a def of the text, called by its name; no exception leaves it -/
def FnAt (P : Program) (w : World) (K : PySem.W.Frag) (mg : Str → Option Value) (base : Heap) (k : Nat) (x : Str) (ps : List Str) (sp : Sp) : Prop :=
  ∃ f fd, FnOk P w K mg base CX0 k f fd ps sp ∧ mg x = some (.ref f) ∧ PySem.W.keepIn K (.ref f) = true ∧ Binds K fd ps []
section
variable {X : Cx} {k j : Nat} {x : Str} {ps : List Str} {sp : Sp} {e : Expr} {es : List Expr} {t : TA} {p pos : Pos}
theorem pe_fn (F : FnAt X.prog X.w X.K X.mg X.base k x ps sp) (hr : Room k X.A) (hg : Gl X x) (ha : PA X (e :: es) t) (hd : (x == ("__debug__" : Str)) = false := by decide)
    (he : starEach (e :: es) X.env = (false, eval e X.env) :: starEach es X.env := by rfl) (hpl : (backTo pos (starEach es X.env)).any (·.1) = false := by rfl) :
    PE X (.Call (.Name x p) (e :: es) [] pos) (tCall sp [] E0 t) := by
  obtain ⟨f, fd, G, hm, hk, hb⟩ := F
  exact pe_call G hr hg hm hk hb .nil pass0 ha (hdb := hd) (he := he) (hpl := hpl)
end

/-! ### what the built-in names are -/
theorem bt_all : bootBuiltins "all" = some (.builtin "all") := by kernel_rfl
theorem bt_len : bootBuiltins "len" = some (.builtin "len") := by kernel_rfl
theorem bt_min : bootBuiltins "min" = some (.builtin "min") := by kernel_rfl
theorem bt_max : bootBuiltins "max" = some (.builtin "max") := by kernel_rfl
theorem bt_sum : bootBuiltins "sum" = some (.builtin "sum") := by kernel_rfl
theorem bt_sorted : bootBuiltins "sorted" = some (.builtin "sorted") := by kernel_rfl
theorem bt_isinstance : bootBuiltins "isinstance" = some (.builtin "isinstance") := by kernel_rfl
theorem bt_int : bootBuiltins "int" = some (.type "int") := by kernel_rfl
theorem bt_bool : bootBuiltins "bool" = some (.type "bool") := by kernel_rfl
theorem bt_list : bootBuiltins "list" = some (.type "list") := by kernel_rfl
theorem bt_tuple : bootBuiltins "tuple" = some (.type "tuple") := by kernel_rfl
/-! ### a product whose size fits -/
section
variable {X : Cx}
end

/-! ### heaps: what stays -/
/-- all stays but what stands at r -/
def Kp (r : Addr) (H H' : Hp) : Prop := ∀ b o, H b = some o → b ≠ r → H' b = some o
theorem Kp.of_same {r : Addr} {H H' : Hp} (h : Same H H') : Kp r H H' := fun b o e _ => h b o e
theorem Kp.trans {r : Addr} {H H1 H2 : Hp} (a : Kp r H H1) (b : Kp r H1 H2) : Kp r H H2 := fun c o h n => b c o (a c o h n) n
theorem Kp.refl (r : Addr) (H : Hp) : Kp r H H := fun _ _ h _ => h
theorem Kp.set {r : Addr} {H : Hp} {o : HO} : Kp r H (upd H r o) := fun b u e n => by rw [upd_ne n]; exact e
theorem same_new {H : Hp} {p : Addr} {o : HO} (h : H p = none) : Same H (upd H p o) := fun b u e => by rw [upd_ne (ne_of_none e h)]; exact e
theorem Same.tups {H H' : Hp} (e : Same H H') : ∀ a xs, H a = some (HO.tup xs) → H' a = some (HO.tup xs) := fun a xs h => e _ _ h
theorem Same.sqL {K : PySem.W.Frag} {H H' : Hp} (e : Same H H') : ∀ a xs, SqL K H a xs → SqL K H' a xs := fun a xs h => e.seq h
/-- a list at r: tuples are elsewhere -/
theorem Kp.tups {H H' : Hp} {r : Addr} {ys : List V} (e : Kp r H H') (hr : H r = some (.lst ys)) : ∀ a xs, H a = some (HO.tup xs) → H' a = some (HO.tup xs) := fun a xs h => e _ _ h (ne_of h hr (by intro z; cases z))
end L2

/-! ### the rules over K itself (a block's context has the same K) -/
namespace L2
open PySem PySem.Spec PyProof.Rows
section
variable {X : Cx} {K : PySem.W.Frag}
theorem ix_listK (h : X.K = K) : IxR X (rIxL K) := by subst h; exact ix_list
theorem ix_tupK (h : X.K = K) : IxR X (rIxT K) := by subst h; exact ix_tup
theorem ix_seqK (h : X.K = K) : IxR X (rIx K) := by subst h; exact ix_seq
theorem sl_tupK (h : X.K = K) : SlR X (rSlT K) := by subst h; exact sl_tup
theorem op_notIn_seqK (h : X.K = K) : OpR X (compareOp .NotIn) (rIn K true) := by subst h; exact op_notIn_seq
def rLen (K : PySem.W.Frag) : List V → Hp → VK → Prop := fun xs H Q => ∃ (p : Addr) (ys : List V), xs = [.ref p] ∧ (SqL K H p ys ∨ SqT K H p ys) ∧ Q (.int ys.length) H
theorem call_len_seqK (h : X.K = K) : CallR X (.builtin "len") (rLen K) := by subst h; exact call_len_seq
def rListOf (K : PySem.W.Frag) : List V → Hp → VK → Prop := fun xs H Q => ∃ (p : Addr) (ys : List V), xs = [.ref p] ∧ (SqL K H p ys ∨ SqT K H p ys) ∧ ∀ l, H l = none → Q (.ref l) (upd H l (.lst ys))
theorem call_list_ofK (h : X.K = K) : CallR X (.type "list") (rListOf K) := by subst h; exact call_list_of
def rAllB (K : PySem.W.Frag) : List V → Hp → VK → Prop := fun xs H Q => ∃ (p : Addr) (bs : List Bool), xs = [.ref p] ∧ SqL K H p (bs.map V.bl) ∧ Q (.bl (bs.all id)) H
theorem call_all_boolsK (h : X.K = K) (hc : X.calm = true) : CallR X (.builtin "all") (rAllB K) := by subst h; exact call_all_bools hc
theorem op_eqDK (h : X.K = K) (hu : X.A.units + 64 < cLine) : OpR X (compareOp .Eq) (rEqD false) := by subst h; exact op_eqD hu
theorem op_neDK (h : X.K = K) (hu : X.A.units + 64 < cLine) : OpR X (compareOp .NotEq) (rEqD true) := by subst h; exact op_neD hu
theorem pi_listK {tg l : Expr} {tl : TE} (h : X.K = K) (hl : PE X l tl) : PI X tg l (iList K tl) := by subst h; exact pi_list hl
theorem pi_tupK {tg l : Expr} {tl : TE} (h : X.K = K) (hl : PE X l tl) : PI X tg l (iTup K tl) := by subst h; exact pi_tup hl
def rIsi (K : PySem.W.Frag) (c : Value) (cv : V) : List V → Hp → VK → Prop := fun xs H Q => ∃ x t b, xs = [x, cv] ∧ TyOf K H x t ∧ PySem.W.kitOne K t c = some b ∧ Q (.bl b) H
theorem call_isiK {c : Value} {cv : V} (h : X.K = K) (rc : RelV cv c) : CallR X (.builtin "isinstance") (rIsi K c cv) := by subst h; exact call_isi rc
theorem pe_appendK {o e : Expr} {to : TE} {t : TA} {apos cpos : Pos} (h : X.K = K) (ho : PE X o to) (ha : PA X [e] t)
    (hbase : attributeBase o "append" X.env (eval o X.env) = eval o X.env := by rfl)
    (hfew : ((backTo cpos (starEach [e] X.env)).all (fun x => !x.1) && (backToKw cpos (keywordEach [] X.env)).all (fun x => x.1.isSome)
      && decide (([e] : List Expr).length + ([] : List Keyword).length + (if ([] : List Keyword).isEmpty then 0 else 1) < 30)) = true := by rfl)
    (hline : (apos.endLine == cpos.line) = true := by rfl) (hs : starEach [e] X.env = (false, eval e X.env) :: starEach [] X.env := by rfl) (hplain : (backTo cpos (starEach [] X.env)).any (·.1) = false := by rfl) :
    PE X (.Call (.Attribute o "append" apos) [e] [] cpos) (tBM K "list" rAppend to t) := by
  subst h
  exact pe_bm PySem.F.plainAttrs_list PySem.F.slot_list_append PySem.F.type_list_append mt_append ho ha hbase hfew hline hs hplain
end
end L2
namespace L2
open PySem
/-! ### comprehensions by their invariant -/
section
variable {K : PySem.W.Frag} {a D : Addr} {xs : List V} {g : TG} {tc : TT} {te : TE} {Q : VK} {σ0 : St} {H1 : Hp}
/-- over a list that the block leaves as it is -/
theorem comp_list (Pv : Nat → St → Hp → Prop) (h0 : Pv 0 σ0 (upd H1 D (.lst []))) (hl : ∀ i σ H, i ≤ xs.length → Pv i σ H → SqL K H a xs)
    (hs : ∀ i x σ H, xs[i]? = some x → Pv i σ H → g x σ H fun σ2 H2 => tc σ2 H2 fun b H3 =>
      if b = true then te σ2 H3 fun y H4 => ∃ acc, H4 D = some (.lst acc) ∧ acc.length < sizeLine ∧ Pv (i + 1) σ2 (upd H4 D (.lst (acc ++ [y]))) else Pv (i + 1) σ2 H3)
    (hd : ∀ σ H, Pv xs.length σ H → Q (.ref D) H) : CompW (Itl K a) g tc te Q D σ0 H1 := by
  refine ⟨fun i m σ H => m = xs.length - i ∧ i ≤ xs.length ∧ Pv i σ H, ⟨xs.length, by simp, Nat.zero_le _, h0⟩, ?_⟩
  rintro i m σ H ⟨rfl, hi, p⟩
  have q := hl i σ H hi p
  by_cases hlt : i < xs.length
  · refine .inr ⟨⟨xs, xs[i], q, by simp [hlt]⟩, Pv (i + 1), fun σ' H' p' => ⟨xs.length - (i + 1), by omega, rfl, hlt, p'⟩, fun x H' y => ?_⟩
    obtain ⟨e, y⟩ := y
    subst e
    exact hs i x σ _ (y xs q) p
  · have e : i = xs.length := by omega
    subst e
    exact .inl ⟨⟨xs, q, Nat.le_refl _⟩, hd σ H p⟩
theorem comp_tup (Pv : Nat → St → Hp → Prop) (h0 : Pv 0 σ0 (upd H1 D (.lst []))) (hl : ∀ i σ H, i ≤ xs.length → Pv i σ H → SqT K H a xs)
    (hs : ∀ i x σ H, xs[i]? = some x → Pv i σ H → g x σ H fun σ2 H2 => tc σ2 H2 fun b H3 =>
      if b = true then te σ2 H3 fun y H4 => ∃ acc, H4 D = some (.lst acc) ∧ acc.length < sizeLine ∧ Pv (i + 1) σ2 (upd H4 D (.lst (acc ++ [y]))) else Pv (i + 1) σ2 H3)
    (hd : ∀ σ H, Pv xs.length σ H → Q (.ref D) H) : CompW (Itt K a) g tc te Q D σ0 H1 := by
  refine ⟨fun i m σ H => m = xs.length - i ∧ i ≤ xs.length ∧ Pv i σ H, ⟨xs.length, by simp, Nat.zero_le _, h0⟩, ?_⟩
  rintro i m σ H ⟨rfl, hi, p⟩
  have q := hl i σ H hi p
  by_cases hlt : i < xs.length
  · refine .inr ⟨⟨xs, xs[i], q, by simp [hlt]⟩, Pv (i + 1), fun σ' H' p' => ⟨xs.length - (i + 1), by omega, rfl, hlt, p'⟩, fun x H' y => ?_⟩
    obtain ⟨e, y⟩ := y
    subst e
    exact hs i x σ _ (y xs q) p
  · have e : i = xs.length := by omega
    subst e
    exact .inl ⟨⟨xs, q, Nat.le_refl _⟩, hd σ H p⟩
theorem comp_range {lo : Int} {n : Nat} (Pv : Nat → St → Hp → Prop) (h0 : Pv 0 σ0 (upd H1 D (.lst [])))
    (hs : ∀ i σ H, i < n → Pv i σ H → g (.int (lo + i)) σ H fun σ2 H2 => tc σ2 H2 fun b H3 =>
      if b = true then te σ2 H3 fun y H4 => ∃ acc, H4 D = some (.lst acc) ∧ acc.length < sizeLine ∧ Pv (i + 1) σ2 (upd H4 D (.lst (acc ++ [y]))) else Pv (i + 1) σ2 H3)
    (hd : ∀ σ H, Pv n σ H → Q (.ref D) H) : CompW (Itr lo n) g tc te Q D σ0 H1 := by
  refine ⟨fun i m σ H => m = n - i ∧ i ≤ n ∧ Pv i σ H, ⟨n, by simp, Nat.zero_le _, h0⟩, ?_⟩
  rintro i m σ H ⟨rfl, hi, p⟩
  by_cases hlt : i < n
  · refine .inr ⟨hlt, Pv (i + 1), fun σ' H' p' => ⟨n - (i + 1), by omega, rfl, hlt, p'⟩, fun x H' y => ?_⟩
    obtain ⟨e, y⟩ := y
    subst e y
    exact hs i σ _ hlt p
  · have e : i = n := by omega
    subst e
    exact .inl ⟨Nat.le_refl _, hd σ H p⟩
end
end L2
set_option Elab.async false
set_option linter.all false
set_option maxRecDepth 100000
set_option maxHeartbeats 4000000
namespace L2
open PySem PySem.Spec PyProof.Rows
/-! ### lists of data: shape and equality -/
section
variable {α : Type} (f : α → PyData)
theorem canAll_map : ∀ (l : List α), (∀ x ∈ l, (f x).canLay0 = true) → PyData.canLayAll0 (l.map f) = true
  | [], _ => rfl
  | a :: l, h => by
    show (PyData.canLay0 (f a) && PyData.canLayAll0 (l.map f)) = true
    rw [h a List.mem_cons_self, canAll_map l fun x hx => h x (List.mem_cons_of_mem _ hx)]; rfl
theorem depthAll_map (k : Nat) : ∀ (l : List α), (∀ x ∈ l, (f x).depth ≤ k) → PyData.depthAll (l.map f) ≤ k
  | [], _ => Nat.zero_le _
  | a :: l, h => by
    show max (PyData.depth (f a)) (PyData.depthAll (l.map f)) ≤ k
    exact Nat.max_le.mpr ⟨h a List.mem_cons_self, depthAll_map k l fun x hx => h x (List.mem_cons_of_mem _ hx)⟩
theorem shaped_list {l : List α} (k : Nat) (hk : k < 64) (h1 : ∀ x ∈ l, (f x).canLay0 = true) (h2 : ∀ x ∈ l, (f x).depth ≤ k) : SeqAt.shaped (.list (l.map f)) = true := by
  unfold SeqAt.shaped
  have e1 : PyData.canLay0 (.list (l.map f)) = true := canAll_map f l h1
  have e2 : PyData.depth (.list (l.map f)) ≤ 64 := by
    show PyData.depthAll (l.map f) + 1 ≤ 64
    have := depthAll_map f k l h2
    omega
  rw [e1, decide_eq_true e2]; rfl
theorem eqvAll_map [DecidableEq α] (h : ∀ x y, PyData.eqv (f x) (f y) = decide (x = y)) : ∀ (l m : List α), PyData.eqvAll (l.map f) (m.map f) = decide (l = m)
  | [], [] => rfl
  | [], _ :: _ => by simp only [List.map_nil, List.map_cons, PyData.eqvAll]; exact (decide_eq_false (by intro z; cases z)).symm
  | _ :: _, [] => by simp only [List.map_nil, List.map_cons, PyData.eqvAll]; exact (decide_eq_false (by intro z; cases z)).symm
  | a :: l, b :: m => by
    simp only [List.map_cons, PyData.eqvAll]
    rw [h a b, eqvAll_map h l m]
    by_cases e1 : a = b
    · subst e1
      by_cases e2 : l = m
      · subst e2; simp
      · simp [e2]
    · simp [e1]
theorem eqv_list [DecidableEq α] (h : ∀ x y, PyData.eqv (f x) (f y) = decide (x = y)) (l m : List α) : PyData.eqv (.list (l.map f)) (.list (m.map f)) = decide (l = m) := by
  simp only [PyData.eqv]; exact eqvAll_map f h l m
end
theorem dat_list {H : Hp} {a : Addr} {vs : List V} {ds : List PyData} (h : H a = some (.lst vs)) (d : Dats H vs ds) : Dat H (.ref a) (.list ds) := by
  simp only [Dat]
  exact ⟨a, vs, rfl, h, d⟩
theorem isi_int_int (K : PySem.W.Frag) : PySem.W.kitOne K (.type "int") (.type "int") = some true := rfl
theorem isi_int_bool (K : PySem.W.Frag) : PySem.W.kitOne K (.type "int") (.type "bool") = some false := by kernel_rfl
theorem isi_tuple_tuple (K : PySem.W.Frag) : PySem.W.kitOne K (.type "tuple") (.type "tuple") = some true := rfl
end L2
namespace L2
open PySem
theorem cut_take (xs : List V) (k : Nat) : cutV xs none (some (k : Int)) = xs.take k := by
  unfold cutV
  rw [HT.sIx_none, HT.sIx_nat, List.drop_zero, Nat.sub_zero]
  by_cases h : k ≤ xs.length
  · rw [Nat.min_eq_left h]
  · rw [Nat.min_eq_right (by omega), List.take_of_length_le (Nat.le_refl _), List.take_of_length_le (by omega)]
theorem cut_drop (xs : List V) (k : Nat) : cutV xs (some (k : Int)) none = xs.drop k := by
  unfold cutV
  rw [HT.sIx_none, HT.sIx_nat]
  by_cases h : k ≤ xs.length
  · rw [Nat.min_eq_left h, List.take_of_length_le (by rw [List.length_drop]; exact Nat.le_refl _)]
  · rw [Nat.min_eq_right (by omega), Nat.sub_self, List.take_zero, List.drop_of_length_le (by omega)]
end L2
set_option Elab.async false
set_option linter.all false
set_option maxRecDepth 100000
set_option maxHeartbeats 4000000
namespace PySem.W
open PySem PySem.Spec PySem.Calls PyProof.Rows
section
variable {prog : Program} {w : World} {A : Around} {E : Value → Shared → Prop} {s : Shared} {K : Frag} {x D : Addr} {ox : Obj} {odo : Option Obj} {name : Str}
end
/-- what the text's class of exceptions must have -/
structure XCls (K : Frag) (D : Addr) : Prop where
  hga : findIn K (.ref D) "__getattribute__" = some (some (.builtin "BaseException.__getattribute__"))
  hk : findIn K (.ref D) "__getattr__" = some none
  hB : mroIn K D (.type "BaseException") = some true
  hc : (clsIn K D).isSome = true
  ha : findIn K (.ref D) "__class__" = some (some (.builtin "object.__class__"))
  hn : specialIn K (.builtin "object.__class__") "__get__" = some (some (.builtin "getset_descriptor.__get__"))
  htk : takesIn K (.builtin "object.__class__") = some true
  hm : mroIn K D (.type "object") = some true
end PySem.W
set_option Elab.async false
set_option linter.all false
set_option maxRecDepth 100000
set_option maxHeartbeats 4000000
namespace L2
open PySem PySem.Spec PyProof.Rows

/-! ### an exception and its record -/
/-- the exception at e: of the class cls, its dict at dx; fl: none, no record yet; some f: its record's flight is f, the record lies where lo says -/
def XObj (h : Heap) (e : Addr) (cls : Value) (dx : Option Addr) (lo : Addr → Prop) : Option Value → Prop
  | none => ∃ oe vs, h.get? e = some oe ∧ oe.cls = cls ∧ oe.dict = dx ∧ oe.data = .fields vs ∧ vs[1]? = some .none
  | some f => ∃ oe vs T oT ts, h.get? e = some oe ∧ oe.cls = cls ∧ oe.dict = dx ∧ oe.data = .fields vs ∧ vs[1]? = some (.ref T) ∧ lo T ∧ T ≠ e ∧ h.get? T = some oT ∧ oT.data = .fields ts ∧ ts[3]? = some f
theorem XObj.there {h : Heap} {e : Addr} {cls : Value} {dx : Option Addr} {lo : Addr → Prop} {f : Option Value} (x : XObj h e cls dx lo f) : ∃ oe vs, h.get? e = some oe ∧ oe.cls = cls ∧ oe.dict = dx ∧ oe.data = .fields vs := by
  cases f with
  | none => obtain ⟨oe, vs, a, b, c, d, _⟩ := x; exact ⟨oe, vs, a, b, c, d⟩
  | some f => obtain ⟨oe, vs, _, _, _, a, b, c, d, _⟩ := x; exact ⟨oe, vs, a, b, c, d⟩

section
variable {M : Model} {A : Around} {E : Value → Shared → Prop} {s : Shared} {base : Heap} {env : Env} {outer : List Env} {L e : Addr}
/-- what a note leaves: all but the frames' slots, the exception and old records -/
structure Noted (fr : List Addr) (e : Addr) (lo : Addr → Prop) (h h' : Heap) : Prop where
  keep : ∀ b o, h.get? b = some o → b ∉ fr → b ≠ e → ¬ lo b → h'.get? b = some o
  slot : ∀ b o, h.get? b = some o → b ∈ fr → b ≠ e → ¬ lo b → ∃ sl, h'.get? b = some { o with slots := sl }
  there : ∀ b o, h.get? b = some o → ∃ o', h'.get? b = some o'
theorem Noted.trans {fr : List Addr} {lo : Addr → Prop} {h h1 h2 : Heap} (a : Noted fr e lo h h1) (b : Noted fr e lo h1 h2) : Noted fr e lo h h2 where
  keep := fun c o q n1 n2 n3 => b.keep c o (a.keep c o q n1 n2 n3) n1 n2 n3
  slot := fun c o q n1 n2 n3 => by
    obtain ⟨sl, q1⟩ := a.slot c o q n1 n2 n3
    obtain ⟨sl2, q2⟩ := b.slot c _ q1 n1 n2 n3
    exact ⟨sl2, q2⟩
  there := fun c o q => by
    obtain ⟨o1, q1⟩ := a.there c o q
    exact b.there c o1 q1
theorem upd_fields {h : Heap} {a : Addr} {o : Obj} {vs : Array Value} (q : h.get? a = some o) (d : o.data = .fields vs) (i : Nat) (v : Value) :
    (h.update a (Obj.mapFields (·.setIfInBounds i v))).get? a = some (Obj.mapFields (·.setIfInBounds i v) o) ∧ (Obj.mapFields (·.setIfInBounds i v) o).data = .fields (vs.setIfInBounds i v) ∧
      (Obj.mapFields (·.setIfInBounds i v) o).cls = o.cls ∧ (Obj.mapFields (·.setIfInBounds i v) o).dict = o.dict := by
  have d2 := Obj.data_mapFields d (·.setIfInBounds i v)
  refine ⟨Heap.get?_update_self _ q (Obj.isFreed_of_fields d2), d2, Obj.cls_mapFields _ _, ?_⟩
  obtain ⟨c, dd, dt, sl⟩ := o
  simp only at d
  subst d
  rfl
/-- a record is laid and named by the exception -/
theorem xentry {oe : Obj} {vs : Array Value} {head : Value} {hadNext : Bool} {cls : Value} {dx : Option Addr} {lo : Addr → Prop} {Q : Unit → Shared → Prop} (hfr : A.frames = some (env :: outer)) (hl : s.heap.FunFrames base (env :: outer)) (hf : env.frame = some L)
    (he : s.heap.get? e = some oe) (hd : oe.data = .fields vs) (hsz : 1 < vs.size) (hc : oe.cls = cls) (hdx : oe.dict = dx) (hlo : ∀ T, s.heap.get? T = none → lo T)
    (h : ∀ h', Noted (frs (env :: outer)) e lo s.heap h' → XObj h' e cls dx lo (some (rawInt L)) → Q () { s with heap := h' }) :
    wpAny M A (do let a ← frameOf env; let pl ← entryPlaceOf L hadNext; let b ← EntryCells.newEntry head a .none (rawInt L) .none pl; setField (.ref e) 1 b) Q E s := by
  have nfr : e ∉ frs (env :: outer) := fun hm => by
    obtain ⟨_, o, q, nf⟩ := hl.mem hm
    rw [he] at q
    cases q
    exact nf vs hd
  refine wpAny_bind (wpAny_frameOf_fun hfr hl hf fun h1 hs1 => ?_)
  refine wpAny_bind (wpAny_entryPlaceOf fun pl hpl => ?_)
  unfold EntryCells.newEntry newFields
  refine wpAny_bind (wpAny_newObj_type ?_ (hpl.sizeOk5 _ _ _ _ _))
  generalize hob : ({ cls := .type "traceback", dict := none, data := .fields ([head, .ref L, .none, rawInt L, .none] ++ (if pl.isEmpty then List.replicate 6 Value.none else pl)).toArray } : Obj) = ob
  have q1 : h1.get? e = some oe := (hs1.2.1 e nfr).trans he
  have q2 := Heap.get?_push_of_some (h := h1) ob q1
  have nTe : h1.objs.size ≠ e := Nat.ne_of_gt (Heap.lt_size q1)
  have sizes : h1.objs.size = s.heap.objs.size := hs1.1
  have newT : s.heap.get? h1.objs.size = none := Heap.get?_none_of_le (by rw [sizes]; exact Nat.le_refl _)
  refine wpAny_setField q2 hd hsz (h _ ⟨fun b o q n1 n2 n3 => ?_, fun b o q n1 n2 n3 => ?_, fun b o q => ?_⟩ ?_)
  · rw [Heap.get?_update_other _ _ (Ne.symm n2)]
    exact Heap.get?_push_of_some _ ((hs1.2.1 b n1).trans q)
  · obtain ⟨sl, q3⟩ := hs1.2.2 b o q
    refine ⟨sl, ?_⟩
    rw [Heap.get?_update_other _ _ (Ne.symm n2)]
    exact Heap.get?_push_of_some _ q3
  · obtain ⟨sl, q3⟩ := hs1.2.2 b o q
    by_cases hb : b = e
    · subst hb
      exact ⟨_, (upd_fields q2 hd 1 _).1⟩
    · refine ⟨{ o with slots := sl }, ?_⟩
      rw [Heap.get?_update_other _ _ (Ne.symm hb)]
      exact Heap.get?_push_of_some _ q3
  · obtain ⟨u1, u2, u3, u4⟩ := upd_fields q2 hd 1 (Value.ref h1.objs.size)
    refine ⟨_, _, h1.objs.size, ob, _, u1, u3.trans hc, u4.trans hdx, u2, by simp [hsz], hlo _ newT, nTe, ?_, by rw [← hob], ?_⟩
    · rw [Heap.get?_update_other _ _ (Ne.symm nTe)]
      exact Heap.get?_push_size _ (by rw [← hob]; rfl)
    · first | (simp; done) | (rcases hpl with rfl | ⟨_, _, _, _, _, _, _, rfl⟩ <;> simp)
/-- an exception without record, or with one that is not in flight, is noted at a frame -/
theorem xnote {cls : Value} {dx : Option Addr} {lo : Addr → Prop} {Q : Unit → Shared → Prop} {fl : Option Value} (hfl : fl = none ∨ fl = some .none) (hfr : A.frames = some (env :: outer)) (hl : s.heap.FunFrames base (env :: outer)) (hf : env.frame = some L)
    (x : XObj s.heap e cls dx lo fl) (hlo : ∀ T, s.heap.get? T = none → lo T)
    (h : ∀ h', Noted (frs (env :: outer)) e lo s.heap h' → XObj h' e cls dx lo (some (rawInt L)) → Q () { s with heap := h' }) : wpAny M A (noteFrame (.ref e) env) Q E s := by
  unfold noteFrame
  simp only [hf]
  rcases hfl with rfl | rfl
  · obtain ⟨oe, vs, he, hc, hdx, hd, h1⟩ := x
    refine wpAny_bind (wpAny_field he hd h1 ?_)
    rw [if_neg (by decide)]
    exact xentry hfr hl hf he hd (Array.getElem?_eq_some_iff.mp h1).1 hc hdx hlo h
  · obtain ⟨oe, vs, T, oT, ts, he, hc, hdx, hd, h1, hT, nT, hgT, hdT, h3⟩ := x
    refine wpAny_bind (wpAny_field he hd h1 ?_)
    rw [if_pos (show (Value.ref T != Value.none) = true from by simp)]
    refine wpAny_bind (wpAny_field hgT hdT h3 ?_)
    rw [if_neg (show ¬ ((Value.none == rawInt L) = true) from by simp [rawInt])]
    have hs3 : 3 < ts.size := (Array.getElem?_eq_some_iff.mp h3).1
    refine wpAny_bind (wpAny_setField hgT hdT hs3 ?_)
    have oth : ∀ b, b ≠ T → (s.heap.update T (Obj.mapFields (·.setIfInBounds 3 Value.none))).get? b = s.heap.get? b := fun b hb => Heap.get?_update_other _ _ (Ne.symm hb)
    obtain ⟨u1, u2, u3, u4⟩ := upd_fields hgT hdT 3 Value.none
    have n0 : Noted (frs (env :: outer)) e lo s.heap (s.heap.update T (Obj.mapFields (·.setIfInBounds 3 Value.none))) := by
      have nb : ∀ b, ¬ lo b → b ≠ T := fun b hb z => hb (by rw [z]; exact hT)
      refine ⟨fun b o q _ _ n3 => (oth b (nb b n3)).trans q, fun b o q _ _ n3 => ⟨o.slots, (oth b (nb b n3)).trans q⟩, fun b o q => ?_⟩
      by_cases hb : b = T
      · subst hb; exact ⟨_, u1⟩
      · exact ⟨o, (oth b hb).trans q⟩
    have ffs : (s.heap.update T (Obj.mapFields (·.setIfInBounds 3 Value.none))).FunFrames base (env :: outer) := hl.of_keeps fun b o q nf => by
      by_cases hb : b = T
      · subst hb; rw [hgT] at q; cases q; exact absurd hdT (nf ts)
      · exact ⟨o, (oth b hb).trans q, rfl⟩
    refine xentry (s := { s with heap := s.heap.update T (Obj.mapFields (·.setIfInBounds 3 Value.none)) }) hfr ffs hf ((oth e (Ne.symm nT)).trans he) hd (Array.getElem?_eq_some_iff.mp h1).1 hc hdx (fun T' z => ?_) fun h' n1 x1 => h h' (n0.trans n1) x1
    by_cases hb : T' = T
    · rw [hb]; exact hT
    · exact hlo T' ((oth T' hb).symm.trans z)
/-- its flight is ended -/
theorem xland {cls : Value} {dx : Option Addr} {lo : Addr → Prop} {Q : Unit → Shared → Prop} {fr : List Addr} {f : Value} (x : XObj s.heap e cls dx lo (some f)) 
    (h : ∀ h', Noted fr e lo s.heap h' → XObj h' e cls dx lo (some .none) → Q () { s with heap := h' }) : wpAny M A (setFlight (.ref e) none) Q E s := by
  obtain ⟨oe, vs, T, oT, ts, he, hc, hdx, hd, h1, hT, nT, hgT, hdT, h3⟩ := x
  have hs3 : 3 < ts.size := (Array.getElem?_eq_some_iff.mp h3).1
  unfold setFlight
  refine wpAny_bind (wpAny_field he hd h1 ?_)
  rw [if_pos (show (Value.ref T != Value.none) = true from by simp)]
  have oth : ∀ b, b ≠ T → (s.heap.update T (Obj.mapFields (·.setIfInBounds 3 Value.none))).get? b = s.heap.get? b := fun b hb => Heap.get?_update_other _ _ (Ne.symm hb)
  obtain ⟨u1, u2, u3, u4⟩ := upd_fields hgT hdT 3 Value.none
  have nb : ∀ b, ¬ lo b → b ≠ T := fun b hb z => hb (by rw [z]; exact hT)
  refine wpAny_setField hgT hdT hs3 (h _ ⟨fun b o q _ _ n3 => (oth b (nb b n3)).trans q, fun b o q _ _ n3 => ⟨o.slots, (oth b (nb b n3)).trans q⟩, fun b o q => ?_⟩ ?_)
  · by_cases hb : b = T
    · subst hb; exact ⟨_, u1⟩
    · exact ⟨o, (oth b hb).trans q⟩
  · exact ⟨oe, vs, T, _, _, (oth e (Ne.symm nT)).trans he, hc, hdx, hd, h1, hT, nT, u1, u2, by simp [hs3]⟩
end

section
variable {X : Cx} {pins : List (Addr × Obj)} {σ : St} {H : Hp} {s : Shared} {e : Addr}
theorem ObjOk.there {P : Program} {w : World} {H : Hp} {h : Heap} {a : Addr} {o : HO} (x : ObjOk P w H h a o) : ∃ ob, h.get? a = some ob := by
  induction o with
  | lst xs => obtain ⟨_, _, _, _, q⟩ := x; exact ⟨_, q⟩
  | tup xs => obtain ⟨_, _, _, ob, q, _⟩ := x; exact ⟨ob, q⟩
  | dK kvs => obtain ⟨_, _, _, _, ob, _, _, q, _⟩ := x; exact ⟨ob, q⟩
  | dT kvs => obtain ⟨_, _, _, _, ob, _, _, q, _⟩ := x; exact ⟨ob, q⟩
  | set S n => obtain ⟨ob, _, _, _, q, _⟩ := x; exact ⟨ob, q⟩
  | ins C dx fs => obtain ⟨_, _, _, q, _⟩ := x; exact ⟨_, q⟩
  | own y => exact x
  | xd fs => obtain ⟨_, ⟨ob, _, _, q, _⟩, _⟩ := x; exact ⟨ob, q⟩
  | rng lo hi => obtain ⟨_, _, _, q⟩ := x; exact ⟨_, q⟩
  | frz ob u ih => exact ⟨ob, x.1⟩
  | tbl ps => exact ⟨_, x⟩
  | met f y => exact ⟨_, x⟩
  | ext φ => exact x.2.1
/-- an address of the exception's own: not tracked, not of the frame's, unknown at the entry -/
def XFp (X : Cx) (pins : List (Addr × Obj)) (H : Hp) (b : Addr) : Prop :=
  H b = none ∧ b ≠ X.env.locals ∧ b ∉ X.fs ∧ X.s₀.heap.get? b = none ∧ (∀ x c, X.env.cells.lookup x = some c → c ≠ b) ∧ ∀ p ∈ X.pn ++ pins, p.1 ≠ b
theorem Inv.xfp (I : Inv X pins σ H s) (hx : X.ex = []) {b : Addr} (hb : s.heap.get? b = none) : XFp X pins H b := by
  refine ⟨?_, fun z => ?_, fun z => ?_, ?_, fun x c q z => ?_, fun p hp z => ?_⟩
  · cases q : H b with
    | none => rfl
    | some o =>
      obtain ⟨ob, r⟩ := (I.hok b o q).there
      rw [hb] at r; cases r
  · obtain ⟨m, ⟨o, _, _, r, _⟩, _⟩ := I.loc
    rw [← z, hb] at r; cases r
  · obtain ⟨_, o, r, _⟩ := I.funs.mem z
    rw [hb] at r; cases r
  · cases q : X.s₀.heap.get? b with
    | none => rfl
    | some o =>
      obtain ⟨o', r⟩ := I.base.there b o q (by rw [hx]; simp)
      rw [hb] at r; cases r
  · obtain ⟨v, o, r, _⟩ := I.cell x c q
    rw [z, hb] at r; cases r
  · obtain ⟨r, _⟩ := I.pin p hp
    rw [z, hb] at r; cases r
/-- a note leaves the frame's state -/
theorem Inv.noted {lo : Addr → Prop} {h' : Heap} (I : Inv X pins σ H s) (n : Noted (frs X.stack) e lo s.heap h') (hlo : ∀ b, (b = e ∨ lo b) → XFp X pins H b ∨ s.heap.get? b = none) : Inv X pins σ H { s with heap := h' } := by
  have off : ∀ b o, s.heap.get? b = some o → (¬ XFp X pins H b) → b ≠ e ∧ ¬ lo b := fun b o q nx =>
    ⟨fun z => (hlo b (.inl z)).elim nx fun r => (by rw [r] at q; cases q), fun z => (hlo b (.inr z)).elim nx fun r => (by rw [r] at q; cases q)⟩
  have any : ∀ b o, s.heap.get? b = some o → (¬ XFp X pins H b) → ∃ sl, h'.get? b = some { o with slots := sl } := fun b o q nx => by
    obtain ⟨n1, n2⟩ := off b o q nx
    by_cases hb : b ∈ frs X.stack
    · exact n.slot b o q hb n1 n2
    · exact ⟨o.slots, n.keep b o q hb n1 n2⟩
  have s0 : ∀ b o, X.s₀.heap.get? b = some o → ¬ XFp X pins H b := fun b o q x => by rw [x.2.2.2.1] at q; cases q
  have neL : ∀ b o, X.s₀.heap.get? b = some o → b ≠ X.env.locals := fun b o q => Nat.ne_of_lt (Nat.lt_of_lt_of_le (Heap.lt_size q) I.ok.above)
  have nst : ∀ b, b ≠ X.env.locals → b ∉ X.fs → b ∉ frs X.stack := fun b n1 n2 z => (List.mem_cons.mp (I.stkSub b z)).elim n1 n2
  have trk : ∀ b o, H b = some o → ¬ XFp X pins H b := fun b o q x => by rw [x.1] at q; cases q
  have trkf : ∀ b o, H b = some o → b ∉ frs X.stack := fun b o q z => by rw [I.stkFree b z] at q; cases q
  have cl : ∀ x c, X.env.cells.lookup x = some c → ∀ v, s.heap.IsCell c v → h'.IsCell c v := fun x c q v ⟨o, ho, hd⟩ => by
    obtain ⟨sl, r⟩ := any c o ho fun z => z.2.2.2.2.1 x c q rfl
    exact ⟨_, r, hd⟩
  refine ⟨I.ok, I.os, I.bare, ⟨fun b o q nn hb hx => ?_, fun b o q nn hb hx => ?_, I.base.free, fun b o q hx => ?_, I.base.tups, I.base.frzs, I.base.tbls⟩, ?_, fun x c q => ?_, I.free, I.freeC, fun p hp => ?_, fun a o q => ?_, I.len⟩
  · have q1 := I.base.keep b o q nn hb hx
    obtain ⟨n1, n2⟩ := off b o q1 (s0 b o q)
    exact n.keep b o q1 (nst b (neL b o q) hb) n1 n2
  · obtain ⟨sl, q1⟩ := I.base.slot b o q nn hb hx
    obtain ⟨sl2, q2⟩ := any b _ q1 (s0 b o q)
    exact ⟨sl2, q2⟩
  · obtain ⟨o1, q1⟩ := I.base.there b o q hx
    exact n.there b o1 q1
  · obtain ⟨m, ⟨ob, es, ep, ho, r⟩, hl⟩ := I.loc
    obtain ⟨sl, q1⟩ := any _ ob ho fun z => z.2.1 rfl
    refine ⟨m, ⟨_, es, ep, q1, r⟩, fun i x v e1 e2 e3 => ?_⟩
    obtain ⟨u, ru, l⟩ := hl i x v e1 e2 e3
    refine ⟨u, ru, ?_⟩
    rcases l with l | ⟨k, c, hc, z⟩
    · exact .inl l
    · exact .inr ⟨k, c, hc, cl x c hc _ z⟩
  · obtain ⟨v, z⟩ := I.cell x c q
    exact ⟨v, cl x c q v z⟩
  · obtain ⟨q, nn, n1, n2, d⟩ := I.pin p hp
    obtain ⟨m1, m2⟩ := off p.1 p.2 q fun z => z.2.2.2.2.2 p hp rfl
    exact ⟨n.keep p.1 p.2 q (nst p.1 n1 n2) m1 m2, nn, n1, n2, d⟩
  · refine (I.hok a o q).stay (fun b u hb r => ?_) (fun _ z => z) fun _ _ z => z
    rcases hb with rfl | hb
    · obtain ⟨m1, m2⟩ := off b u r (trk b o q)
      exact n.keep b u r (trkf b o q) m1 m2
    · obtain ⟨m1, m2⟩ := off b u r (trk b _ hb)
      exact n.keep b u r (trkf b _ hb) m1 m2

/-- how an exception lies behind a call -/
def CX1 (P : Program) (w : World) : CXT := fun outer H s E ev s' => ∃ (e : Addr) (cls : Value) (dx : Option Addr) (H' : Hp), ev = .ref e ∧ s'.os = s.os ∧ AllBare s'.gens ∧ Un (frs outer) [] H H' s.heap s'.heap ∧ HOk P w H' s'.heap ∧
  s.heap.get? e = none ∧ H' e = none ∧ XObj s'.heap e cls dx (fun T => s.heap.get? T = none ∧ H' T = none) (some .none) ∧ E cls dx H'
/-- exceptions that fulfil E may come up in this body, at a state of the frame -/
def Rz (X : Cx) (E : St → XK) : Prop := ∀ (pins : List (Addr × Obj)) (σ : St) (H : Hp) (s : Shared) (e : Addr) (cls : Value) (dx : Option Addr) (fl : Option Value), (fl = none ∨ fl = some .none) → Inv X pins σ H s → XFp X pins H e →
  XObj s.heap e cls dx (XFp X pins H) fl → E σ cls dx H → X.xe (.ref e) s
theorem XObj.imp {h : Heap} {e : Addr} {cls : Value} {dx : Option Addr} {lo lo' : Addr → Prop} {f : Option Value} (x : XObj h e cls dx lo f) (k : ∀ T, (∃ o, h.get? T = some o) → lo T → lo' T) : XObj h e cls dx lo' f := by
  cases f with
  | none => exact x
  | some f =>
    obtain ⟨oe, vs, T, oT, ts, he, hc, hdx, hd, h1, hT, nT, hgT, r⟩ := x
    exact ⟨oe, vs, T, oT, ts, he, hc, hdx, hd, h1, k T ⟨oT, hgT⟩ hT, nT, hgT, r⟩
/-- a callee's exception reaches the body's wish -/
theorem passes1 {E : St → XK} {σ : St} (hx : X.ex = []) (R : Rz X E) {pins : List (Addr × Obj)} {H : Hp} {s s' : Shared} {ev : Value} (I : Inv X pins σ H s) (c : CX1 X.prog X.w X.stack H s (E σ) ev s') : X.xe ev s' := by
  obtain ⟨e, cls, dx, H', rfl, ho, hg, u, hok, ne, he, x, q⟩ := c
  have I' : Inv X pins σ H' s' := I.call' (ch := []) ho u hok hg (fun b hb => by cases hb)
  have fp : ∀ T, s.heap.get? T = none → H' T = none → XFp X pins H' T := fun T h1 h2 => by
    obtain ⟨_, a2, a3, a4, a5, a6⟩ := I.xfp hx h1
    exact ⟨h2, a2, a3, a4, a5, a6⟩
  exact R pins σ H' s' e cls dx _ (.inr rfl) I' (fp e ne he) (x.imp fun T _ z => fp T z.1 z.2) q
/-- .. leaves a def's body -/
theorem rz_leave {P : Program} {w : World} {K : PySem.W.Frag} {mg : Str → Option Value} {base : Heap} {N : List Str} {qual : Str} {scope : Scope} {f : Addr} {cd : Value} {A : Around} {outer : List Env} {s : Shared} {H : Hp} {E : XK} :
    Rz (cxOf (CX1 P w) P w K mg base N qual scope f cd A outer s H E) (fun _ => E) := by
  intro pins σ H1 s1 e cls dx fl hfl I fe x q
  show wpAny (model P w) _ (leaving _ (.ref e)) _ _ s1
  unfold leaving
  have lo1 : ∀ b, (b = e ∨ (XFp (cxOf (CX1 P w) P w K mg base N qual scope f cd A outer s H E) pins H1 b ∨ s1.heap.get? b = none)) → XFp (cxOf (CX1 P w) P w K mg base N qual scope f cd A outer s H E) pins H1 b ∨ s1.heap.get? b = none := fun b z => z.elim (fun z => .inl (by rw [z]; exact fe)) fun z => z
  have stk : (cxOf (CX1 P w) P w K mg base N qual scope f cd A outer s H E).A.frames = some ((cxOf (CX1 P w) P w K mg base N qual scope f cd A outer s H E).env :: outer) := I.ok.frames
  refine wpAny_bind (xnote (base := base) (lo := fun T => XFp (cxOf (CX1 P w) P w K mg base N qual scope f cd A outer s H E) pins H1 T ∨ s1.heap.get? T = none) hfl stk I.stack rfl (x.imp fun T _ z => .inl z) (fun T z => .inr z) fun h1 n1 x1 => ?_)
  refine xland (fr := frs ((cxOf (CX1 P w) P w K mg base N qual scope f cd A outer s H E).env :: outer)) x1 fun h2 n2 x2 => ?_
  have I2 : Inv (cxOf (CX1 P w) P w K mg base N qual scope f cd A outer s H E) pins σ H1 { s1 with heap := h2 } := I.noted (n1.trans n2) lo1
  refine ⟨e, cls, dx, H1, rfl, I2.os, I2.bare, I2.base, I2.hok, fe.2.2.2.1, fe.1, x2.imp fun T _ z => ?_, q⟩
  rcases z with z | z
  · exact ⟨z.2.2.2.1, z.1⟩
  · have y := I.xfp rfl z
    exact ⟨y.2.2.2.1, y.1⟩
end
end L2
set_option Elab.async false
set_option linter.all false
set_option maxRecDepth 100000
set_option maxHeartbeats 4000000
namespace L2
open PySem PySem.Spec PyProof.Rows

/-! ### calls that may raise -/
def FnAtX (P : Program) (w : World) (K : PySem.W.Frag) (mg : Str → Option Value) (base : Heap) (k : Nat) (x : Str) (ps : List Str) (sp : Sp) : Prop :=
  ∃ f fd, FnOk P w K mg base (CX1 P w) k f fd ps sp ∧ mg x = some (.ref f) ∧ PySem.W.keepIn K (.ref f) = true ∧ Binds K fd ps []
def tCallX (sp : Sp) (E : St → XK) (t : TA) : TE := fun σ H Q => t σ H fun vs H1 => sp vs H1 Q (E σ)
section
variable {X : Cx} {k : Nat} {x : Str} {ps : List Str} {sp : Sp} {e : Expr} {es : List Expr} {t : TA} {p pos : Pos} {E : St → XK}
theorem pe_fnX (F : FnAtX X.prog X.w X.K X.mg X.base k x ps sp) (hx : X.ex = []) (R : Rz X E) (hr : Room k X.A) (hg : Gl X x) (ha : PA X (e :: es) t) (hd : (x == ("__debug__" : Str)) = false := by decide)
    (he : starEach (e :: es) X.env = (false, eval e X.env) :: starEach es X.env := by rfl) (hpl : (backTo pos (starEach es X.env)).any (·.1) = false := by rfl) :
    PE X (.Call (.Name x p) (e :: es) [] pos) (tCallX sp E t) := by
  obtain ⟨f, fd, G, hm, hk, hb⟩ := F
  intro pins s σ H Q I h
  refine wpAny_Call_Name_kw (ld_glob I hg hm ?_ hd)
  refine PySem.W.callWith_K (h₀ := X.base) I.ok.mod.kin hk (thn (ha pos pins s σ H _ I h) fun us s1 ⟨vs, H1, I1, r, q⟩ => ⟨I1.kIn, ?_⟩) he hpl
  have hlen : us.length = ps.length := by rw [← r.length]; exact G.len _ _ _ _ q
  have hbd := hb s1 us I1.kIn (by rw [List.append_nil]; exact hlen)
  rw [List.append_nil] at hbd
  refine wpAny_call (codeAny_mono (G.run X.A X.stack s1 H1 ⟨us, []⟩ us vs Q (E σ) hr I1.env0 hbd r q) fun res s' hq => ?_)
  match res, hq with
  | .error ev, hq => exact passes1 hx R I1 hq
  | .ok (.ret u), hq => exact I1.after hq
end
section
variable {P : Program} {w : World} {K : PySem.W.Frag} {mg : Str → Option Value} {base : Heap}
/-- a def whose exceptions leave it -/
theorem Fun.okX {x qual : Str} {st : Stmt} {f : Addr} {fd : FuncData} {N ps : List Str} {k : Nat} {sp : Sp} (F : Fun K x qual st f fd) (S : FnScope N ps (defScope st)) (len : ∀ vs H Q E, sp vs H Q E → vs.length = ps.length)
    (hbody : ∀ (cdv : Value) (A : Around) (outer : List Env) (s : Shared) (H : Hp) (vs : List V) (Q : VK) (E : XK), Room k (A.deeper (envOfC qual (defScope st) s.heap.objs.size f cdv)) → sp vs H Q E →
      Rz (cxOf (CX1 P w) P w K mg base N qual (defScope st) f cdv A outer s H E) (fun _ => E) →
      ∃ t, PSs (cxOf (CX1 P w) P w K mg base N qual (defScope st) f cdv A outer s H E) (defBody st) t ∧ t { nx := fun _ H' => Q .non H', rt := Q } (start N vs) H) : FnOk P w K mg base (CX1 P w) (k + 1) f fd ps sp := by
  obtain ⟨oc, od, kV, doc, pm, an, cdv, ct, osl, rfl, lk, hcd⟩ := F.ex
  exact fn_of lk hcd S len fun A outer s H vs Q E hr hsp => hbody cdv A outer s H vs Q E hr hsp rz_leave
end

/-! ### raise C(..), C an own class without an __init__ -/
theorem exc_obj {K : PySem.W.Frag} {h : Heap} {C : Addr} {bmB : List Value} {newId : String} (X : K.In h) (q : PySem.W.excIn K C bmB newId = true) :
    ∃ bm N nm qn bs hdct sn sub ab col dd k0 k1 k2 k3 k5 mN, h.get? C = some (excClassObj nm qn C N bs bm hdct sn sub ab col dd k0 k1 k2 k3 k5 newId) ∧ h.Ns N mN ∧ mN "__init__" = none ∧ OwnTail h bmB bm := by
  unfold PySem.W.excIn at q
  split at q
  · rename_i d0 c0 s0 lk
    split at q
    · rename_i C1 tl a0 a1 a2 a3 nn a5 em es
      simp only [Bool.and_eq_true, beq_iff_eq, Bool.not_eq_true'] at q
      obtain ⟨⟨⟨⟨⟨e1, e2⟩, e3⟩, e4⟩, e5⟩, e6⟩ := q
      subst e1 e2
      obtain ⟨f1, f2, f3, f4, f5, f6, f7, f8, f9, f10, f11⟩ := c0
      dsimp only at em e3 e5 e6
      subst em e3
      have ez : s0 = #[a0, a1, a2, a3, some (.builtin nn), a5] := by
        obtain ⟨l⟩ := s0
        simp only at es
        rw [es]
      subst ez
      exact ⟨tl, f4, _, _, _, _, _, _, _, _, _, _, _, _, _, _, _, X _ _ lk, .of_isNs (PySem.W.isNs_of_in X e5), PySem.W.nsMap_none_of_in X e5 e6, PySem.W.tail_of_in X e4⟩
    · cases q
  · cases q
def tRaise (cls : Value) (E : St → XK) (ta : TA) : TS := fun _ σ H => ta σ H fun vs H1 => vs.length ≤ sizeLine ∧ E σ cls none H1
section
variable {X : Cx} {E : St → XK} {x : Str} {C : Addr} {B newId initId : String} {bmB : List Value} {e0 : Expr} {rest : List Expr} {ta : TA} {np cpos pos : Pos}
theorem ps_raise (FB : ExcBaseFacts B newId initId bmB) (q : PySem.W.excIn X.K C bmB newId = true) (hm : X.mg x = some (.ref C)) (hg : Gl X x) (hc : X.calm = true) (hx : X.ex = []) (R : Rz X E) (ha : PA X (e0 :: rest) ta)
    (he : starEach (e0 :: rest) X.env = (false, eval e0 X.env) :: starEach rest X.env := by rfl) (hplain : (backTo cpos (starEach rest X.env)).any (·.1) = false := by rfl) (hd : (x == ("__debug__" : Str)) = false := by decide) :
    PS X (.Raise (some (.Call (.Name x np) (e0 :: rest) [] cpos)) none pos) (tRaise (.ref C) E ta) := by
  intro pins s σ H D I h
  obtain ⟨bm, N, nm, qn, bs, hdct, sn, sub, ab, col, dd, k0, k1, k2, k3, k5, mN, hC, hN, hni, T⟩ := exc_obj I.ok.mod.kin q
  refine wpAny_Raise_call_subT (k5 := k5) (k3 := k3) (k2 := k2) (k1 := k1) (k0 := k0) (dd := dd) (col := col) (ab := ab) (sub := sub) (sn := sn) (hdct := hdct) (bs := bs) (q := qn) (nm := nm)
    (C := C) (N := N) (bm := bm) (mN := mN) FB (T.hasType FB.hasBase) (I.ok.hd hc) (by rw [he]; show (false || (backTo cpos (starEach rest X.env)).any (·.1)) = false; rw [hplain]; rfl) hni (ld_glob I hg hm ⟨rfl, ?_⟩ hd)
  have h2 := ha cpos pins s σ H _ I h
  rw [he] at h2 ⊢
  refine Calls.evalArgs_plain (thn h2 fun us s1 ⟨vs, H1, I1, r, hl, hE⟩ => ⟨rfl, by rw [← r.length]; exact hl, I1.bk _ _ hC, hN.keeps I1.bk, T.keeps I1.bk, fun h' e mk => ?_⟩)
  obtain ⟨t, ht, _, _⟩ := mk.there
  have I2 : Inv X pins σ H1 { s1 with heap := h' } := I1.kept (t' := s1.toks) mk.keeps
  exact R pins σ H1 _ e (.ref C) none none (.inl rfl) I2 (I1.xfp hx mk.new) ⟨_, _, ht, rfl, rfl, rfl, rfl⟩ hE
end

/-! ### try: .. except C as n: .. -/
/-- the context within the handler -/
def cxHand (X : Cx) (e : Addr) : Cx := { X with A := X.A.mark (some (.ref e)), calm := false, xe := fun _ _ => False }
/-- the context of the tried suite -/
def cxTry (X : Cx) (pins : List (Addr × Obj)) (xe : Value → Shared → Prop) : Cx := { X with pn := X.pn ++ pins, xe := xe }
section
variable {X : Cx} {pins : List (Addr × Obj)} {σ : St} {H : Hp} {s : Shared}
theorem Inv.toTry (I : Inv X pins σ H s) (xe : Value → Shared → Prop) : Inv (cxTry X pins xe) [] σ H s :=
  ⟨⟨I.ok.mod, I.ok.kind, I.ok.glob, I.ok.blt, I.ok.above, I.ok.inj, I.ok.has, I.ok.cab, I.ok.hd, I.ok.frames, I.ok.stk, I.ok.exf, I.ok.bs, I.ok.bsz, I.ok.noex, I.ok.exfs, I.ok.funs, I.ok.frf⟩, I.os, I.bare, I.base, I.loc, I.cell, I.free, I.freeC,
    fun p hp => I.pin p (by rw [List.append_nil] at hp; exact hp), I.hok, I.len⟩
theorem Inv.ofTry {xe : Value → Shared → Prop} {pins' : List (Addr × Obj)} (I : Inv (cxTry X pins xe) pins' σ H s) : Inv X pins σ H s :=
  ⟨⟨I.ok.mod, I.ok.kind, I.ok.glob, I.ok.blt, I.ok.above, I.ok.inj, I.ok.has, I.ok.cab, I.ok.hd, I.ok.frames, I.ok.stk, I.ok.exf, I.ok.bs, I.ok.bsz, I.ok.noex, I.ok.exfs, I.ok.funs, I.ok.frf⟩, I.os, I.bare, I.base, I.loc, I.cell, I.free, I.freeC,
    fun p hp => I.pin p (List.mem_append_left _ hp), I.hok, I.len⟩
theorem Inv.toHand (I : Inv X pins σ H s) (e : Addr) : Inv (cxHand X e) pins σ H s :=
  ⟨⟨I.ok.mod, I.ok.kind, I.ok.glob, I.ok.blt, I.ok.above, I.ok.inj, I.ok.has, I.ok.cab, fun z => (by cases z), I.ok.frames, I.ok.stk, I.ok.exf, I.ok.bs, I.ok.bsz, I.ok.noex, I.ok.exfs, I.ok.funs, I.ok.frf⟩, I.os, I.bare, I.base, I.loc, I.cell, I.free, I.freeC,
    I.pin, I.hok, I.len⟩
theorem Inv.ofHand {e : Addr} (I : Inv (cxHand X e) pins σ H s) (hd : X.calm = true → X.A.handled = none) : Inv X pins σ H s :=
  ⟨⟨I.ok.mod, I.ok.kind, I.ok.glob, I.ok.blt, I.ok.above, I.ok.inj, I.ok.has, I.ok.cab, hd, I.ok.frames, I.ok.stk, I.ok.exf, I.ok.bs, I.ok.bsz, I.ok.noex, I.ok.exfs, I.ok.funs, I.ok.frf⟩, I.os, I.bare, I.base, I.loc, I.cell, I.free, I.freeC,
    I.pin, I.hok, I.len⟩
end

section
variable {M : Model} {A : Around} {Er : Value → Shared → Prop} {s : Shared} {K : PySem.W.Frag} {e C D : Addr}
/-- does the exception match an own class? -/
theorem matches_own {oe : Obj} {b : Bool} {Q : Bool → Shared → Prop} (X : K.In s.heap) (he : s.heap.get? e = some oe) (hc : oe.cls = .ref C) (hD : (PySem.W.clsIn K D).isSome = true) (hty : PySem.W.typeIn K (.ref D) = some (.type "type"))
    (hB : PySem.W.subIn K (.ref D) (.type "BaseException") = some true) (hs : PySem.W.subIn K (.ref C) (.ref D) = some b) (hq : Q b s) : wpAny M A (excMatches (.ref e) (.ref D)) Q Er s := by
  obtain ⟨hh, g, d, t, os⟩ := s
  have L1 : PySem.W.Looks M hh (typeOf (.ref D)) (.type "type") := PySem.W.looks_typeIn X hty
  have L2 : PySem.W.Looks M hh (isSubtype (.ref D) (.type "BaseException")) true := PySem.W.looks_subIn X hB
  have L3 : PySem.W.Looks M hh (isSubtype (.ref C) (.ref D)) b := PySem.W.looks_subIn X hs
  have L4 : PySem.W.Looks M hh (isType (.ref D)) true := by
    unfold PySem.W.clsIn at hD
    split at hD
    · rename_i c' d' cd' sl' ho
      intro A' Q' E' s' k q
      unfold isType loadHead
      exact wpAny_bind (wpAny_loadPart (k _ _ (X _ _ ho)) (wpAny_pure q))
    · cases hD
  have f := tc_notTuple
  unfold excMatches isExcClass isInstance
  refine wpAny_bind (wpAny_bind (L1.at ?_))
  refine wpAny_of_eq f ?_
  rw [if_neg (by decide)]
  refine wpAny_bind (wpAny_pure ?_)
  simp only [List.forIn_cons, List.forIn_nil]
  refine wpAny_bind (wpAny_bind (wpAny_bind (wpAny_bind (L4.at ?_))))
  rw [if_pos rfl]
  refine L2.at ?_
  simp only [Bool.not_true, Bool.false_eq_true, if_false]
  refine wpAny_pure (wpAny_pure ?_)
  have L0 : PySem.W.Looks M hh (typeOf (.ref e)) (.ref C) := by
    intro A' Q' E' s' k q
    unfold typeOf
    refine wpAny_bind (wpAny_loadPart (k _ _ he) ?_)
    rw [hc]
    exact wpAny_pure q
  refine wpAny_bind (L0.at ?_)
  refine wpAny_bind (wpAny_bind (wpAny_bind (L3.at ?_)))
  cases b with
  | true => exact wpAny_pure (wpAny_pure (wpAny_pure hq))
  | false => exact wpAny_pure (wpAny_pure (wpAny_pure hq))
end
end L2
set_option Elab.async false
set_option linter.all false
set_option maxRecDepth 100000
set_option maxHeartbeats 4000000
namespace L2
open PySem PySem.Spec PyProof.Rows
section
variable {X : Cx} {pins : List (Addr × Obj)} {σ : St} {H : Hp} {s : Shared}
end

/-- what of the text a class must have to be named by an except -/
structure XHd (K : PySem.W.Frag) (D : Addr) : Prop where
  cl : (PySem.W.clsIn K D).isSome = true
  ty : PySem.W.typeIn K (.ref D) = some (.type "type")
  bs : PySem.W.subIn K (.ref D) (.type "BaseException") = some true
section
variable {X : Cx} {body suite : List Stmt} {b0 : Stmt} {n cn : Str} {i : Nat} {Dc : Addr} {tb : (St → XK) → TS} {th : TS} {cp hpos pos : Pos}
end

/-! ### isinstance of a caught exception -/
section
variable {X : Cx} {K : PySem.W.Frag}
end
end L2
set_option Elab.async false
set_option linter.all false
set_option maxRecDepth 100000
set_option maxHeartbeats 4000000
namespace L2
open PySem PySem.Spec PyProof.Rows
section
variable {X : Cx} {K : PySem.W.Frag}
end
end L2
namespace L2
open PySem
/-- a class of the text's that is raised; another one beside it -/
structure Xr (K : PySem.W.Frag) (mg : Str → Option Value) (C : Addr) (nm : Str) : Prop where
  bd : mg nm = some (.ref C)
  hd : XHd K C
  xc : PySem.W.XCls K C
  ex : PySem.W.excIn K C [.type "ValueError", .type "Exception", .type "BaseException", .type "object"] "ValueError.__new__" = true
  ve : PySem.W.subIn K (.ref C) (.type "ValueError") = some true
end L2
set_option Elab.async false
set_option linter.all false
set_option maxRecDepth 100000
set_option maxHeartbeats 4000000
namespace L2
open PySem PySem.Spec PyProof.Rows

/-! ### several objects of an iterator turn -/
section
variable {X : Cx} {pins : List (Addr × Obj)} {σ : St} {H : Hp} {s : Shared} {h' : Heap}
end

/-! ### enumerate -/
section
variable {X : Cx}
end

/-! ### zip of two lists -/
section
variable {X : Cx}
end
end L2
set_option Elab.async false
set_option linter.all false
set_option maxRecDepth 100000
set_option maxHeartbeats 4000000
namespace L2
open PySem PySem.Spec PyProof.Rows
section
variable {K : PySem.W.Frag} {a l1 l2 D : Addr} {xs ys : List V} {g : TG} {tc : TT} {te : TE} {Q : VK} {σ0 : St} {H1 : Hp}
end
section
variable {K : PySem.W.Frag} {a l1 l2 : Addr} {xs ys : List V} {g : TG} {tb : TS} {D : Ends} {σ : St} {H : Hp}
end
/-! ### list.insert, list.count, sum -/
section
variable {X : Cx}
def rInsert : V → List V → Hp → VK → Prop := fun x vs H Q => ∃ l xs i y, x = .ref l ∧ vs = [.int i, y] ∧ H l = some (.lst xs) ∧ 0 ≤ i ∧ i ≤ xs.length ∧ xs.length < sizeLine ∧ Q .non (upd H l (.lst (xs.take i.toNat ++ y :: xs.drop i.toNat)))
theorem mt_insert : MtM X "list.insert" rInsert := by
  intro pins s σ H x vs v us Q I rx rv h
  obtain ⟨l, xs, i, y, rfl, rfl, hH, i0, i1, hz, q⟩ := h
  cases rx
  obtain ⟨u, u2, rfl, ru, ru2⟩ := rv.two
  obtain ⟨t, rfl⟩ := ru
  obtain ⟨z, its, n, r, hl, e⟩ := I.lstM hH
  have l63 := line63
  refine call_meets F.slot_list_insert ⟨_, e, rfl⟩ F.entry_list_insert (F.args_list_insert_3 _ _ _)
    (AutoSeq1.list_insert_list_int_val_1 l its.toArray n i t u2 (by rw [show Builtin.List.listFitsIndex i = true from fitsIndex_both (by omega) (by omega)]; decide) (by rw [List.size_toArray]; omega)) ⟨e, ?_⟩
  refine ⟨.non, _, I.lset (its' := its.take i.toNat ++ u2 :: its.drop i.toNat) hH e ?_ ((r.take _).append (.cons ru2 (r.drop _))) ?_, rfl, q⟩
  · have hi : ¬ i < 0 := by omega
    simp only [hi, if_false]
    have hm : min i.toNat its.toArray.size = i.toNat := by rw [List.size_toArray]; omega
    simp only [hm]
    apply Array.ext'
    simp [List.extract_eq_drop_take, List.take_of_length_le]
  · simp only [List.length_append, List.length_cons, List.length_take, List.length_drop]
    omega
theorem valsInts : ∀ {ns : List Int} {us : List Value}, Vals (ns.map V.int) us → IntsAre us ns
  | [], us, r => by cases r; exact .nil
  | n :: ns, us, r => by
    cases r with
    | cons r rs =>
      obtain ⟨t, rfl⟩ := r
      exact .cons n t (valsInts rs)
theorem preSum_get (ns : List Int) : ∀ n, n ≤ ns.length → preSum (fun i => (ns[i]?).getD 0) n = (ns.take n).sum
  | 0, _ => by simp [preSum]
  | n + 1, h => by
    have ih := preSum_get ns n (by omega)
    have hn : n < ns.length := h
    rw [List.take_succ, List.sum_append, ← ih]
    simp [preSum, hn]
def rSum (K : PySem.W.Frag) : List V → Hp → VK → Prop := fun xs H Q => ∃ (p : Addr) (ns : List Int), xs = [.ref p] ∧ SqL K H p (ns.map V.int) ∧ Q (.int ns.sum) H
theorem call_sumK {K : PySem.W.Frag} (hK : X.K = K) (hc : X.calm = true) : CallR X (.builtin "sum") (rSum K) := by
  subst hK
  intro pins s σ H xs us Q I r h
  obtain ⟨p, ns, rfl, hq, q⟩ := h
  obtain ⟨u, rfl, rx⟩ := vals1 r
  cases rx
  obtain ⟨its, rv, pl, hz⟩ := I.list hq
  have e := valsInts rv
  have hlen : its.length = ns.length := by rw [← rv.length, List.length_map]
  refine call_sum_walkG (wpAny_pyIter_list pl.isList ⟨s.heap.objs.size, [s.heap.objs.size, p], [s.heap.objs.size], its.length, _, _, fun i => (ns[i]?).getD 0, rfl,
    walks_list (show X.A.in1.handled = none from I.ok.hd hc) s.heap.objs.size p ?_ its, ⟨⟨_, Heap.get?_push_size _ rfl, rfl, rfl⟩, ?_⟩, ?_, ?_, ?_⟩)
  · intro z
    obtain ⟨o, ho, _⟩ := pl.isList
    have := Heap.lt_size ho
    rw [← z] at this
    exact Nat.lt_irrefl _ this
  · obtain ⟨o, ho, hcl⟩ := pl.isList
    exact ⟨o, Heap.get?_push_of_some _ ho, hcl⟩
  · intro b hb
    have hsz : (s.heap.push { cls := .type "list_iterator", data := .fields #[.ref p, .int 0 0] }).objs.size = s.heap.objs.size + 1 := by simp [Heap.push]
    have hb' : b = s.heap.objs.size ∨ b = p := by simpa using hb
    show b < (s.heap.push _).objs.size
    rw [hsz]
    rcases hb' with rfl | rfl
    · exact Nat.lt_succ_self _
    · obtain ⟨o, ho, _⟩ := pl.isList
      exact Nat.lt_succ_of_lt (Heap.lt_size ho)
  · intro i v hP
    obtain ⟨j, hj, rj⟩ : ∃ j, ns[i]? = some j ∧ ∃ t, v = .int j t := by
      have hi : i < its.length := (List.getElem?_eq_some_iff.mp hP).1
      have hv := (rv.get (i := i) (x := V.int (ns[i]'(by omega))) (by simp [show i < ns.length by omega]))
      obtain ⟨u, hu, ru⟩ := hv
      rw [hP] at hu
      cases hu
      obtain ⟨t, ht⟩ := ru
      exact ⟨ns[i]'(by omega), by simp [show i < ns.length by omega], t, ht⟩
    obtain ⟨t, rfl⟩ := rj
    exact ⟨t, by simp [hj]⟩
  · intro h' tk t' k
    rw [preSum_get ns its.length (by omega), List.take_of_length_le (by omega)]
    have f := I.fpOk (H' := H) (b := s.heap.objs.size) (Nat.le_refl _) (I.hok.fresh (Nat.le_refl _))
    have I2 : Inv X pins σ H { s with heap := h', toks := tk } := I.turned (h' := h') (t' := tk) (it := s.heap.objs.size) (fun b o hb e => k b o (by simpa using hb) (Heap.get?_push_of_some _ e)) f.1 f.2.1 f.2.2.2.1 f.2.2.2.2.1 f.2.2.2.2.2
    exact ⟨.int _, H, I2, ⟨_, rfl⟩, q⟩
theorem pe_bmK {K : PySem.W.Frag} {T name id : String} {r : V → List V → Hp → VK → Prop} {o e : Expr} {es : List Expr} {to : TE} {t : TA} {apos cpos : Pos} (h : X.K = K) (pa : PlainAttrs T) (slot : Slot T name id) (hty : typeOf (.builtin id) = pure (.type "method_descriptor")) (hm : MtR X id r) (ho : PE X o to) (ha : PA X (e :: es) t)
    (hbase : attributeBase o name X.env (eval o X.env) = eval o X.env := by rfl)
    (hfew : ((backTo cpos (starEach (e :: es) X.env)).all (fun x => !x.1) && (backToKw cpos (keywordEach [] X.env)).all (fun x => x.1.isSome)
      && decide ((e :: es).length + ([] : List Keyword).length + (if ([] : List Keyword).isEmpty then 0 else 1) < 30)) = true := by rfl)
    (hline : (apos.endLine == cpos.line) = true := by rfl) (hs : starEach (e :: es) X.env = (false, eval e X.env) :: starEach es X.env := by rfl) (hplain : (backTo cpos (starEach es X.env)).any (·.1) = false := by rfl) :
    PE X (.Call (.Attribute o name apos) (e :: es) [] cpos) (tBM K T r to t) := by
  subst h
  exact pe_bm pa slot hty hm ho ha hbase hfew hline hs hplain
theorem pg_tupK {K : PySem.W.Frag} {es : List Expr} {k : Nat} {t : TGs} {n : Nat} {pos : Pos} (hK : X.K = K) (hc : X.calm = true) (h : PGs X es t)
    (hn : (assignEach es X.env).length = n := by rfl) (hst : (assignEach es X.env).findIdx? (·.1) = none := by rfl) : PG X (.Tuple es k pos) (gTup K n t) := by subst hK; exact pg_tup hc h hn hst
end
end L2
set_option Elab.async false
set_option linter.all false
set_option maxRecDepth 100000
set_option maxHeartbeats 4000000
namespace L2
open PySem
/-! ### comprehensions whose block writes nothing that stood -/
section
variable {K : PySem.W.Frag} {a D : Addr} {xs : List V} {tc : TT} {te : TE} {Q : VK} {rest : St} {H1 : Hp}
theorem fm_succ {α : Type} (f : Nat → Option α) (n : Nat) : (List.range (n + 1)).filterMap f = (List.range n).filterMap f ++ (f n).toList := by
  rw [List.range_succ, List.filterMap_append]
  cases h : f n <;> simp [h]
theorem fm_len {α : Type} (f : Nat → Option α) (n : Nat) : ((List.range n).filterMap f).length ≤ n := by
  have := List.length_filterMap_le f (List.range n)
  simpa using this
theorem Same.newly {H H1 : Hp} {D : Addr} {o : HO} (h : Same H H1) (n : H D = none) : Same H (upd H1 D o) := fun b u e => by rw [upd_ne (ne_of_none e n)]; exact h b u e
/-- over a list: what is told of each item is known ahead -/
theorem comp_val (f : Nat → Option V) (hD : H1 D = none) (hq : SqL K H1 a xs) (hx : xs.length ≤ 100000)
    (hs : ∀ i x H (G : Hp → Prop) (F : VK), xs[i]? = some x → Same H1 H → (∀ H', Same H H' → f i = none → G H') → (∀ y H', Same H H' → f i = some y → F y H') → tc (some x :: rest) H fun b H3 => if b = true then te (some x :: rest) H3 F else G H3)
    (hd : ∀ H, Same H1 H → H D = some (.lst ((List.range xs.length).filterMap f)) → Q (.ref D) H) : CompW (Itl K a) (gName 0) tc te Q D (none :: rest) H1 := by
  refine comp_list (K := K) (xs := xs) (fun i σ H => (∃ v, σ = v :: rest) ∧ Same H1 H ∧ H D = some (.lst ((List.range i).filterMap f))) ⟨⟨none, rfl⟩, same_new hD, upd_same⟩ (fun i σ H _ ⟨_, sm, _⟩ => sm.sqL _ _ hq) ?_ (fun σ H ⟨_, sm, e⟩ => hd H sm e)
  rintro i x σ H hi ⟨⟨v, rfl⟩, sm, e⟩
  have hil : i < xs.length := (List.getElem?_eq_some_iff.mp hi).1
  refine hs i x H _ _ hi sm (fun H3 s3 ef => ⟨⟨_, rfl⟩, sm.trans s3, by rw [s3 _ _ e, fm_succ, ef]; simp⟩) (fun y H4 s4 ef => ?_)
  refine ⟨_, s4 _ _ e, ?_, ⟨_, rfl⟩, (sm.trans s4).newly hD, ?_⟩
  · have := fm_len f i
    rw [sizeLine_eq]; omega
  · rw [upd_same, fm_succ, ef]; rfl
theorem comp_valT (f : Nat → Option V) (hD : H1 D = none) (hq : H1 a = some (.tup xs)) (hx : xs.length ≤ 100000)
    (hs : ∀ i x H (G : Hp → Prop) (F : VK), xs[i]? = some x → Same H1 H → (∀ H', Same H H' → f i = none → G H') → (∀ y H', Same H H' → f i = some y → F y H') → tc (some x :: rest) H fun b H3 => if b = true then te (some x :: rest) H3 F else G H3)
    (hd : ∀ H, Same H1 H → H D = some (.lst ((List.range xs.length).filterMap f)) → Q (.ref D) H) : CompW (Itt K a) (gName 0) tc te Q D (none :: rest) H1 := by
  refine comp_tup (K := K) (xs := xs) (fun i σ H => (∃ v, σ = v :: rest) ∧ Same H1 H ∧ H D = some (.lst ((List.range i).filterMap f))) ⟨⟨none, rfl⟩, same_new hD, upd_same⟩ (fun i σ H _ ⟨_, sm, _⟩ => SqT.of (sm.tups _ _ hq)) ?_ (fun σ H ⟨_, sm, e⟩ => hd H sm e)
  rintro i x σ H hi ⟨⟨v, rfl⟩, sm, e⟩
  have hil : i < xs.length := (List.getElem?_eq_some_iff.mp hi).1
  refine hs i x H _ _ hi sm (fun H3 s3 ef => ⟨⟨_, rfl⟩, sm.trans s3, by rw [s3 _ _ e, fm_succ, ef]; simp⟩) (fun y H4 s4 ef => ?_)
  refine ⟨_, s4 _ _ e, ?_, ⟨_, rfl⟩, (sm.trans s4).newly hD, ?_⟩
  · have := fm_len f i
    rw [sizeLine_eq]; omega
  · rw [upd_same, fm_succ, ef]; rfl
theorem comp_valR {n : Nat} (f : Nat → Option V) (hD : H1 D = none) (hx : n ≤ 100000)
    (hs : ∀ i H (G : Hp → Prop) (F : VK), i < n → Same H1 H → (∀ H', Same H H' → f i = none → G H') → (∀ y H', Same H H' → f i = some y → F y H') → tc (some (.int (0 + i)) :: rest) H fun b H3 => if b = true then te (some (.int (0 + i)) :: rest) H3 F else G H3)
    (hd : ∀ H, Same H1 H → H D = some (.lst ((List.range n).filterMap f)) → Q (.ref D) H) : CompW (Itr 0 n) (gName 0) tc te Q D (none :: rest) H1 := by
  refine comp_range (lo := 0) (n := n) (fun i σ H => (∃ v, σ = v :: rest) ∧ Same H1 H ∧ H D = some (.lst ((List.range i).filterMap f))) ⟨⟨none, rfl⟩, same_new hD, upd_same⟩ ?_ (fun σ H ⟨_, sm, e⟩ => hd H sm e)
  rintro i σ H hi ⟨⟨v, rfl⟩, sm, e⟩
  refine hs i H _ _ hi sm (fun H3 s3 ef => ⟨⟨_, rfl⟩, sm.trans s3, by rw [s3 _ _ e, fm_succ, ef]; simp⟩) (fun y H4 s4 ef => ?_)
  refine ⟨_, s4 _ _ e, ?_, ⟨_, rfl⟩, (sm.trans s4).newly hD, ?_⟩
  · have := fm_len f i
    rw [sizeLine_eq]; omega
  · rw [upd_same, fm_succ, ef]; rfl
theorem fm_congr {α β : Type} {f g : α → Option β} : ∀ (l : List α) (_ : True) (h : ∀ x ∈ l, f x = g x), l.filterMap f = l.filterMap g
  | [], _, _ => rfl
  | x :: l, _, h => by
    rw [List.filterMap_cons, List.filterMap_cons, h x (by simp), fm_congr l trivial fun y hy => h y (by simp [hy])]
theorem snocInd {α : Type} {P : List α → Prop} (h0 : P []) (hs : ∀ xs x, P xs → P (xs ++ [x])) (xs : List α) : P xs := by
  rw [← List.reverse_reverse xs]
  induction xs.reverse with
  | nil => exact h0
  | cons x l ih => rw [List.reverse_cons]; exact hs _ _ ih
theorem fm_some {α β : Type} (xs : List α) (g : α → β) : (List.range xs.length).filterMap (fun i => (xs[i]?).map g) = xs.map g := by
  refine snocInd (P := fun xs => (List.range xs.length).filterMap (fun i => (xs[i]?).map g) = xs.map g) rfl (fun xs x ih => ?_) xs
  · show (List.range (xs ++ [x]).length).filterMap (fun i => ((xs ++ [x])[i]?).map g) = (xs ++ [x]).map g
    rw [List.length_append, List.length_singleton, fm_succ, List.map_append]
    congr 1
    · rw [← ih]
      refine fm_congr _ trivial fun i hi => ?_
      have : i < xs.length := by simpa using hi
      rw [List.getElem?_append_left this]
    · simp
end
end L2
namespace L2
open PySem
section
variable {X : Cx} {K : PySem.W.Frag}
theorem op_catTK (h : X.K = K) : OpR X (binaryOp .Add) (rCatT K) := by subst h; exact op_catT
end
end L2
namespace L2
open PySem
theorem seq_cps {a b : TS} {D : Ends} {σ : St} {H : Hp} (P : St → Hp → Prop) (h1 : ∀ D' : Ends, (∀ σ' H', P σ' H' → D'.nx σ' H') → D'.rt = D.rt → a D' σ H) (h2 : ∀ σ' H', P σ' H' → b D σ' H') : tSeq a b D σ H := h1 _ h2 rfl
end L2
namespace L2
open PySem PySem.Spec PyProof.Rows
section
variable {X : Cx} {K : PySem.W.Frag} {a : Expr} {ta : TE} {pos : Pos}
end
end L2
set_option Elab.async false
set_option linter.all false
set_option maxRecDepth 100000
set_option maxHeartbeats 4000000
namespace L2
open PySem PySem.Spec PyProof.Rows
section
variable {X : Cx} {K : PySem.W.Frag}
theorem pe_bm0K {T name id : String} {r : V → List V → Hp → VK → Prop} {o : Expr} {to : TE} {apos cpos : Pos} (h : X.K = K) (pa : PlainAttrs T) (slot : Slot T name id) (hty : typeOf (.builtin id) = pure (.type "method_descriptor")) (hm : MtR X id r) (ho : PE X o to)
    (hbase : attributeBase o name X.env (eval o X.env) = eval o X.env := by rfl) (hline : (apos.endLine == cpos.line) = true := by rfl) : PE X (.Call (.Attribute o name apos) [] [] cpos) (tBM0 K T r to) := by
  subst h
  exact pe_bm0 pa slot hty hm ho hbase hline
end
section
variable {K : PySem.W.Frag} {a D : Addr} {xs : List V} {te : TE} {Q : VK} {rest : St} {H1 : Hp}
theorem dats_snoc {H : Hp} {vs : List V} {ds : List PyData} {v : V} {d : PyData} (h : Dats H vs ds) (hd : Dat H v d) : Dats H (vs ++ [v]) (ds ++ [d]) := Dats.append h (by simp only [Dats, and_true]; exact hd)
end
end L2
set_option Elab.async false
set_option linter.all false
namespace L2
open PySem
end L2
set_option Elab.async false
set_option linter.all false
set_option maxRecDepth 100000
set_option maxHeartbeats 4000000
namespace L2
open PySem PySem.Spec PyProof.Rows
section
variable {prog : Program} {w : World} {K : Type} [DecidableEq K] {knd : HeapKind prog w K}
theorem atKey_none {xs : List (K × Addr × Value)} {k : K} (h : ∀ (j : Nat) (p : Addr × Value), xs[j]? ≠ some (k, p)) : atKey xs k = none := by
  unfold atKey
  rw [Option.map_eq_none_iff, List.find?_eq_none]
  intro x hx e
  obtain ⟨j, hj⟩ := List.getElem?_of_mem hx
  have e' : x.1 = k := of_decide_eq_true e
  exact h j x.2 (by rw [hj, ← e'])
theorem atKey_some {xs : List (K × Addr × Value)} {k : K} {j : Nat} {p : Addr × Value} (hn : (xs.map (·.1)).Nodup) (h : xs[j]? = some (k, p)) : atKey xs k = some p := by
  unfold atKey
  induction xs generalizing j with
  | nil => cases h
  | cons x xs ih =>
    rw [List.find?_cons]
    cases j with
    | zero =>
      have : x = (k, p) := by simpa using h
      subst this
      simp
    | succ j =>
      have hj : xs[j]? = some (k, p) := by simpa using h
      have hn' := List.nodup_cons.mp (by simpa using hn : (x.1 :: xs.map (·.1)).Nodup)
      have ne : ¬ x.1 = k := fun z => hn'.1 (by rw [z]; exact List.mem_map.mpr ⟨(k, p), List.mem_of_getElem? hj, rfl⟩)
      rw [decide_eq_false ne]
      exact ih hn'.2 hj
theorem dictSetDefault_heap {A : Around} {E : Value → Shared → Prop} {s : Shared} {d a : Addr} {xs : List (K × Addr × Value)} {k : K} {dflt : Value} {Q : Value → Shared → Prop}
    (hr : knd.room A) (hk : knd.is s.heap k a) (dd : Heap.DictOfH knd s.heap d xs) (hz : xs.length ≤ sizeLine)
    (h1 : ∀ p, atKey xs k = some p → Q p.2 { s with toks := s.toks + knd.draws k })
    (h2 : atKey xs k = none → ∀ h', Heap.DictOfH knd h' d (xs ++ [(k, a, dflt)]) → Heap.SameBut d s.heap h' → Q dflt { s with heap := h', toks := s.toks + knd.draws k }) :
    wpAny (model prog w) A (dictSetDefault d (.ref a) dflt) Q E s := by
  unfold dictSetDefault
  refine wpAny_holding (wpAny_bind (knd.pyHash hr hk ?_))
  obtain ⟨o, es, ep, ho, hx, hd, he, hi, hn⟩ := id dd
  have hl : es.size = xs.length := by rw [← Array.length_toList, he, List.length_map]
  refine wpAny_bind (wpAny_dictFind_heap (s := { s with toks := s.toks + knd.draws k }) hr hk ho hd he hi hn (fun hno => ?_) (fun j p hj => ?_))
  · refine wpAny_bind (wpAny_rule ?_)
    have an := atKey_none hno
    refine wpAny_bind (wpAny_updateDictKeys (s := { s with toks := s.toks + knd.draws k }) ho hd ?_ (by omega) (by simp))
    refine wpAny_pure ?_
    have sb := Heap.SameBut.update s.heap d (Obj.mapDictKeys fun x => x.push { hash := knd.hash k, key := .ref a, val := dflt })
    refine h2 an _ ?_ sb
    obtain ⟨oc, od, odat, osl⟩ := o
    simp only at hd
    subst hd
    refine ⟨_, es.push { hash := knd.hash k, key := .ref a, val := dflt }, ep + 1, Heap.get?_update_self _ ho ?_, hx, rfl, ?_, ?_, ?_⟩
    · obtain ⟨c1, c2, c3⟩ := hx
      simp only at c1
      subst c1
      rfl
    · rw [Array.toList_push, he, List.map_append]; rfl
    · intro x hxm
      rcases List.mem_append.mp hxm with hxm | hxm
      · exact knd.keeps (hi x hxm) ho rfl sb
      · have : x = (k, a, dflt) := by simpa using hxm
        subst this
        exact knd.keeps hk ho rfl sb
    · rw [List.map_append]
      refine List.nodup_append.mpr ⟨hn, by simp, ?_⟩
      intro y hy z hz' e
      have : z = k := by simpa using hz'
      subst this
      subst e
      obtain ⟨x, hx', rfl⟩ := List.mem_map.mp hy
      obtain ⟨j, hj⟩ := List.getElem?_of_mem hx'
      exact hno j x.2 hj
  · refine wpAny_bind (wpAny_dictEntries (s := { s with toks := s.toks + knd.draws k }) ho hd ?_)
    have ej : es[j]? = some (entryOfKey knd (k, p)) := by
      rw [← Array.getElem?_toList, he, List.getElem?_map, hj]; rfl
    rw [ej]
    exact wpAny_bind (wpAny_rule (wpAny_pure (h1 p (atKey_some hn hj))))
theorem meetsH_setdefault (knd : HeapKind prog w K) (d a : Addr) (hd : (d == sysModules) = false) (dflt : Value) : MeetsIn prog w (Builtin.«dict.setdefault» { pos := [.ref d, .ref a, dflt] }) fun A R s =>
    knd.room A.in1 ∧ ∃ k xs, knd.is s.heap k a ∧ Heap.DictOfH knd s.heap d xs ∧ xs.length ≤ sizeLine ∧ (∀ p, atKey xs k = some p → R (.ok (.ret p.2)) { s with toks := s.toks + knd.draws k }) ∧
      (atKey xs k = none → ∀ h', Heap.DictOfH knd h' d (xs ++ [(k, a, dflt)]) → Heap.SameBut d s.heap h' → R (.ok (.ret dflt)) { s with heap := h', toks := s.toks + knd.draws k }) := by
  rintro A R s ⟨hr, k, xs, hk, dd, hz, h1, h2⟩
  obtain ⟨o, es, ep, ho, hx, hdat, _⟩ := id dd
  unfold Builtin.«dict.setdefault»
  have ht : s.TypeIs (.ref d) "dict" := ⟨o, ho, hx.1⟩
  refine wpAny_bind ?_
  unfold Builtin.Dict.keyAndDefault
  refine wpAny_bind ?_
  unfold Builtin.Dict.notOrdered
  rw [if_pos (by decide)]
  refine wpAny_bind (wpAny_typeOf ht ?_)
  rw [if_neg (by decide)]
  refine wpAny_pure ?_
  refine wpAny_bind ?_
  unfold Builtin.Dict.nameIsSure
  rw [if_neg (by show ¬ (false = true); decide)]
  refine wpAny_pure ?_
  refine wpAny_bind ?_
  unfold selfAndSome noKeywords
  refine wpAny_bind ?_
  rw [if_pos (by rfl)]
  refine wpAny_pure ?_
  show wpAny (model prog w) A.in1 (checkCount "setdefault" 1 2 2 >>= fun _ => pure (Value.ref d, [Value.ref a, dflt])) _ _ s
  refine wpAny_bind ?_
  have ck : checkCount "setdefault" 1 2 2 = pure () := rfl
  rw [ck]
  refine wpAny_pure (wpAny_pure ?_)
  show wpAny (model prog w) A.in1 (Builtin.Dict.addrOf (.ref d) >>= fun x => pure (x, Value.ref a, some dflt)) _ _ s
  refine wpAny_bind (wpAny_pure (wpAny_pure ?_))
  show wpAny (model prog w) A.in1 (if (d == sysModules) = true then _ else (dictSetDefault d (.ref a) dflt >>= fun v => ret v)) _ _ s
  rw [if_neg (by rw [hd]; decide)]
  refine wpAny_bind (dictSetDefault_heap hr hk dd hz (fun p hp => wpAny_pure (h1 p hp)) (fun hn h' dd' sb => wpAny_pure (h2 hn h' dd' sb)))
end
section
variable {X : Cx} {o e f : Expr} {td ty tx : TE} {apos cpos : Pos}
def tDSetD (td ty tx : TE) : TE := fun σ H Q => td σ H fun x H1 => ∃ a, x = .ref a ∧ IsD H1 a ∧ ty σ H1 fun y H2 => tx σ H2 fun z H3 => ∃ kvs k b, H3 a = some (.dT kvs) ∧ y = .ref b ∧ H3 b = some (.tup (k.map kV)) ∧ kvs.length < sizeLine ∧
  (∀ v, valV kvs k = some v → Q v H3) ∧ (valV kvs k = none → Q z (upd H3 a (.dT (putK kvs k z))))
theorem pe_dsetd (hu : X.A.units + 1 < cLine) (ho : PE X o td) (he : PE X e ty) (hf : PE X f tx) (m : M2 X o "setdefault" apos e f cpos) : PE X (.Call (.Attribute o "setdefault" apos) [e, f] [] cpos) (tDSetD td ty tx) := by
  intro pins s σ H Q I h
  refine wpAny_Call_method m.base m.few m.line PySem.F.plainAttrs_dict PySem.F.slot_dict_setdefault PySem.F.type_dict_setdefault (thn (ho pins s σ H _ I h) fun u s1 ⟨x, H1, I1, rx, a, ex, d, q1⟩ => ?_)
  subst ex
  obtain rfl : u = Value.ref a := rx
  obtain ⟨t1, t2, _⟩ := isD_at I1 d
  refine ⟨t1, t2, ?_⟩
  rw [m.trees]
  refine Calls.callWith_builtin rfl (Calls.evalArgs_plain (Calls.spliced_cons (thn (he pins s1 σ H1 _ I1 q1) fun iv s2 ⟨y, H2, I2, ry, q2⟩ =>
    Calls.spliced_cons (thn (hf pins s2 σ H2 _ I2 q2) fun fv s3 ⟨z, H3, I3, rz, kvs, k, b, ea, ey, eb, hl, q3, q4⟩ => Calls.spliced_nil ?_))))
  subst ey
  cases (show iv = Value.ref b from ry)
  obtain ⟨hz, hd, xs, rel, dd⟩ := dt_of I3.hok ea
  have hz' : xs.length ≤ sizeLine := by rw [← Paired.length rel]; exact hz
  have rv := rel.val k
  refine call_meetsIn PySem.F.slot_dict_setdefault dd.typeIs PySem.F.entry_dict_setdefault (PySem.F.args_dict_setdefault_3 _ _ _) (meetsH_setdefault (tupleKind (mixKind X.prog X.w)) a b hd fv) ⟨tupleKind_room_in1 hu, k, xs, key_of I3.hok eb, dd, hz', fun p hp => ?_, fun hn h' dd' sb => ?_⟩
  · rw [hp] at rv
    cases lv : valV kvs k with
    | none => rw [lv] at rv; exact absurd rv (by simp [RelO])
    | some v =>
      rw [lv] at rv
      exact ⟨v, H3, I3.tok _, rv, q3 v lv⟩
  · rw [hn] at rv
    have lv : valV kvs k = none := by
      cases lv : valV kvs k with
      | none => rfl
      | some v => rw [lv] at rv; exact absurd rv (by simp [RelO])
    have hl' : (putK kvs k z).length ≤ sizeLine := by have := length_putK kvs k z; omega
    obtain ⟨q, es, ep, hq, h2, h3, h4, _, h5⟩ := dd'
    have est : storedH xs k b fv = xs ++ [(k, b, fv)] := by unfold storedH; rw [hn]; rfl
    have rp := rel.put k eb rz
    rw [est] at rp
    refine ⟨z, upd H3 a (.dT (putK kvs k z)), d_write (ob := .dT (putK kvs k z)) I3 (by rw [ea]; exact True.intro) sb ⟨q, hq⟩ ⟨hl', hd, _, rp.keeps fun c ys ec => ?_, q, es, ep, hq, h2, h3, h4, h5⟩, rz, q4 lv⟩
    rw [upd_ne (ne_of ec ea (fun z => nomatch z))]
    exact ec
end
end L2
namespace L2
open PySem PySem.Spec PyProof.Rows
section
variable {X : Cx} {K : PySem.W.Frag}
end
end L2
namespace L2
open PySem
theorem drop_bm_cps {K : PySem.W.Frag} {T : String} {r : V → List V → Hp → VK → Prop} {to : TE} {t : TA} {D : Ends} {σ : St} {H : Hp} (P : V → Hp → Prop) (h1 : ∀ Q' : VK, (∀ v H', P v H' → Q' v H') → to σ H Q') (h2 : ∀ v H', P v H' → tyV K T v H' ∧ t σ H' fun xs H2 => r v xs H2 fun _ H3 => D.nx σ H3) : tDrop (tBM K T r to t) D σ H := h1 _ h2
end L2
set_option Elab.async false
set_option linter.all false
set_option maxRecDepth 100000
set_option maxHeartbeats 4000000
namespace L2
open PySem PySem.Spec PyProof.Rows
section
variable {X : Cx} {K : PySem.W.Frag}
end
/-! ### texts put together -/
def cat : List Str → Str
  | [] => Str.empty
  | x :: xs => x ++ cat xs
end L2
set_option Elab.async false
set_option linter.all false
set_option maxRecDepth 100000
set_option maxHeartbeats 4000000
namespace L2
open PySem PySem.Spec PyProof.Rows
def tTry0 (K : PySem.W.Frag) (Dc : Addr) (tb : (St → XK) → TS) (th : TS) : TS := fun D σ H =>
  tb (fun σ1 cls dx H1 => ∃ C, cls = .ref C ∧ PySem.W.subIn K (.ref C) (.ref Dc) = some true ∧ th D σ1 H1) D σ H
section
variable {X : Cx} {body suite : List Stmt} {b0 : Stmt} {cn : Str} {Dc : Addr} {tb : (St → XK) → TS} {th : TS} {cp hpos pos : Pos}
theorem ps_try0 (hc : X.calm = true) (hx : X.ex = []) (hst : X.stack = X.env :: X.outer) (hfm : X.env.frame = some X.env.locals) (hg : Gl X cn) (hm : X.mg cn = some (.ref Dc)) (hD : XHd X.K Dc)
    (hb : ∀ (pn : List (Addr × Obj)) (xe : Value → Shared → Prop) (E : St → XK), PassesOwn (model X.prog X.w) X.A X.env xe → Rz { X with pn := pn, xe := xe } E → PSs { X with pn := pn, xe := xe } body (tb E))
    (hh : ∀ e, PSs (cxHand X e) (b0 :: suite) th) (hd : (cn == ("__debug__" : Str)) = false := by decide) :
    PS X (.Try body [.ExceptHandler (some (.Name cn cp)) none (b0 :: suite) hpos] [] [] pos) (tTry0 X.K Dc tb th) := by
  intro pins s σ H D I h
  refine wpAny_Try_except ?_
  refine wpAny_mono (hb (X.pn ++ pins) (fun e s₁ => wpAny (model X.prog X.w) X.A (noteFrame e X.env) (fun _ s₂ => wpAny (model X.prog X.w) X.A (setFlight e none) (fun _ s₃ => wpAny (model X.prog X.w) X.A (handleBy e X.env [.ExceptHandler (some (.Name cn cp)) none (b0 :: suite) hpos]) (SP X pins D) X.xe s₃) X.xe s₂) X.xe s₁) (fun σ1 cls dx H1 => ∃ C, cls = .ref C ∧ PySem.W.subIn X.K (.ref C) (.ref Dc) = some true ∧ th D σ1 H1)
    PassesOwn.looking ?_ [] s σ H D (I.toTry _) h) (fun f s1 q => ?_) fun _ _ q => q
  · -- an exception comes up
    intro pins' σ1 H1 s1 e cls dx fl hfl I1 fe x hE
    obtain ⟨C, rfl, hsub, hth⟩ := hE
    have lo1 : ∀ b, (b = e ∨ (XFp (cxTry X pins X.xe) pins' H1 b ∨ s1.heap.get? b = none)) → XFp (cxTry X pins X.xe) pins' H1 b ∨ s1.heap.get? b = none := fun b z => z.elim (fun z => .inl (by rw [z]; exact fe)) fun z => z
    have hfr : X.A.frames = some (X.env :: X.outer) := by rw [← hst]; exact I.ok.frames
    have hff : s1.heap.FunFrames X.base (X.env :: X.outer) := by rw [← hst]; exact I1.stack
    refine xnote (base := X.base) (lo := fun T => XFp (cxTry X pins X.xe) pins' H1 T ∨ s1.heap.get? T = none) hfl hfr hff hfm (x.imp fun T _ z => .inl z) (fun T z => .inr z) fun h1 n1 x1 => ?_
    refine xland (fr := frs (X.env :: X.outer)) x1 fun h2 n2 x2 => ?_
    have n12 : Noted (frs X.stack) e (fun T => XFp (cxTry X pins X.xe) pins' H1 T ∨ s1.heap.get? T = none) s1.heap h2 := by rw [hst]; exact n1.trans n2
    have I2 : Inv X pins σ1 H1 { s1 with heap := h2 } := (I1.noted n12 lo1).ofTry
    refine wpAny_handleBy_cons (codeAny_handlers_test (ld_glob (I2.toHand e) hg hm ?_ hd)) (by intro z; cases z)
    obtain ⟨oe, vs, q1, q2, q3, q4⟩ := x2.there
    refine matches_own (K := X.K) I2.kIn q1 q2 hD.cl hD.ty hD.bs hsub ?_
    rw [if_pos rfl]
    refine codeAny_handlers_suite ?_
    refine xland (fr := frs (X.env :: X.outer)) x2 fun h3 n3 x3 => ?_
    have n13 : Noted (frs X.stack) e (fun T => XFp (cxTry X pins X.xe) pins' H1 T ∨ s1.heap.get? T = none) s1.heap h3 := by rw [hst]; exact (n1.trans n2).trans n3
    have I3 : Inv X pins σ1 H1 { s1 with heap := h3 } := (I1.noted n13 lo1).ofTry
    refine wpAny_mono (hh e pins _ _ _ D (I3.toHand e) hth) (fun f s6 q6 => ?_) fun _ _ z => z.elim
    cases f with
    | next =>
      obtain ⟨σ6, H6, J6, r6⟩ := q6
      exact ⟨_, H6, J6.ofHand I.ok.hd, r6⟩
    | brk =>
      obtain ⟨σ6, H6, J6, r6⟩ := q6
      exact ⟨_, H6, J6.ofHand I.ok.hd, r6⟩
    | cont =>
      obtain ⟨σ6, H6, J6, r6⟩ := q6
      exact ⟨_, H6, J6.ofHand I.ok.hd, r6⟩
    | ret u =>
      obtain ⟨v6, σ6, H6, J6, rv, r6⟩ := q6
      exact ⟨v6, _, H6, J6.ofHand I.ok.hd, rv, r6⟩
  · cases f with
    | next => obtain ⟨σ1, H1, J, r⟩ := q; exact wpAny_execs_nil ⟨σ1, H1, J.ofTry, r⟩
    | brk => obtain ⟨σ1, H1, J, r⟩ := q; exact ⟨σ1, H1, J.ofTry, r⟩
    | cont => obtain ⟨σ1, H1, J, r⟩ := q; exact ⟨σ1, H1, J.ofTry, r⟩
    | ret u => obtain ⟨v, σ1, H1, J, rv, r⟩ := q; exact ⟨v, σ1, H1, J.ofTry, rv, r⟩
end
end L2
namespace L2
open PySem PySem.Spec PyProof.Rows
section
variable {X : Cx}
def CDivB (i j : Int) : Prop := 0 < j ∧ j < 1329227995784915872903807060280344576
theorem op_fdivB : OpR X (binaryOp .FloorDiv) (rI CDivB fun i j => .int (i / j)) := opI fun i j _ _ _ _ _ hc q => by
  have h1 : (0 : Int) < j := hc.1
  have h2 : j < 1329227995784915872903807060280344576 := hc.2
  refine floordiv_int (by omega) (by rw [Int.fdiv_eq_ediv_of_nonneg i (by omega)]; exact q) (.inl ?_)
  unfold Builtin.divisionGoesByPylong
  have hn : j.natAbs < 2 ^ 120 := by omega
  have hl : j.natAbs.log2 < 120 := (Nat.log2_lt (by omega)).mpr hn
  have hz : (j == 0) = false := by
    rw [beq_eq_false_iff_ne]
    omega
  simp only [hz, Bool.false_eq_true, if_false]
  have : ¬ j.natAbs.log2 / 30 + 1 > 300 := by omega
  rw [decide_eq_false this, Bool.false_and]
end
end L2
set_option Elab.async false
set_option linter.all false
set_option maxRecDepth 100000
set_option maxHeartbeats 4000000
namespace L2
open PySem PySem.Spec PyProof.Rows
section
variable {X : Cx} {pins : List (Addr × Obj)} {σ : St} {H : Hp} {s : Shared} {d : Addr} {u u' : HO}
/-- what an object is held as is changed, the object stays -/
theorem Inv.retag (I : Inv X pins σ H s) (e : H d = some u) (h1 : ∀ xs, u ≠ .tup xs) (h2 : ∀ a, u ≠ .own a) (h3 : ∀ ps, u ≠ .tbl ps) (hz : ∀ o v, X.H₀ d ≠ some (.frz o v)) (ok : ObjOk X.prog X.w (upd H d u') s.heap d u') : Inv X pins σ (upd H d u') s := by
  have nd : ∀ {b : Addr}, H b = none → b ≠ d := fun q z => by rw [z, e] at q; cases q
  have ht : ∀ b xs, H b = some (HO.tup xs) → (upd H d u') b = some (HO.tup xs) := fun b xs q => by
    have : b ≠ d := fun z => by rw [z, e] at q; exact h1 xs (Option.some.inj q)
    rw [upd_ne this]; exact q
  refine ⟨I.ok, I.os, I.bare, ⟨I.base.keep, I.base.slot, fun b o q n hx => ?_, I.base.there, fun b xs q => ht b xs (I.base.tups b xs q), fun b o v q => ?_, fun b ps q => ?_⟩, I.loc, I.cell, ?_, fun x c q => ?_, fun p hp => ?_, fun b v q => ?_, I.len⟩
  · have := I.base.free b o q n hx
    rw [upd_ne (nd this)]; exact this
  · have := I.base.frzs b o v q
    have nb : b ≠ d := fun z => by rw [z] at q; exact hz o v q
    rw [upd_ne nb]; exact this
  · obtain ⟨more, r⟩ := I.base.tbls b ps q
    have nb : b ≠ d := fun z => by rw [z, e] at r; exact h3 _ (Option.some.inj r)
    exact ⟨more, by rw [upd_ne nb]; exact r⟩
  · rw [upd_ne (nd I.free)]; exact I.free
  · rw [upd_ne (nd (I.freeC x c q))]; exact I.freeC x c q
  · obtain ⟨q1, q2, q3⟩ := I.pin p hp
    exact ⟨q1, by rw [upd_ne (nd q2)]; exact q2, q3⟩
  · by_cases hb : b = d
    · subst hb
      rw [upd_same] at q
      cases q
      exact ok
    · rw [upd_ne hb] at q
      refine (I.hok b v q).stay (fun _ _ _ r => r) (fun c r => ?_) ht
      have : c ≠ d := fun z => by rw [z, e] at r; exact h2 _ (Option.some.inj r)
      rw [upd_ne this]; exact r
end
/-! ### over a dict's keys: the dict is held as it stands till the walk is over -/
section
variable {X : Cx} {tg : Expr}
end
section
variable {d D : Addr} {o : Obj} {kvs : List (Key × V)} {tc : TT} {te : TE} {Q : VK} {rest : St} {H1 : Hp}
end
/-! ### let go again -/
end L2
set_option Elab.async false
set_option linter.all false
set_option maxRecDepth 100000
set_option maxHeartbeats 4000000
namespace L2
open PySem PySem.Spec PyProof.Rows
/-! ### range downwards -/
section
variable {X : Cx} {tg : Expr}
/-! ### the least of a list -/
end
end L2
set_option Elab.async false
set_option linter.all false
set_option maxRecDepth 100000
set_option maxHeartbeats 4000000
namespace L2
open PySem PySem.Spec PyProof.Rows
/-! ### reversed of a list -/
section
variable {X : Cx} {tg : Expr}
/-! ### list(range(a, b)) -/
end
end L2
set_option Elab.async false
set_option linter.all false
set_option maxRecDepth 100000
set_option maxHeartbeats 4000000
namespace L2
open PySem PySem.Spec PyProof.Rows
/-! ### in, for lists of data -/
section
variable {X : Cx}
end
end L2
set_option Elab.async false
set_option linter.all false
set_option maxRecDepth 100000
set_option maxHeartbeats 4000000
namespace L2
open PySem PySem.Spec PyProof.Rows
/-! ### a def that may raise, where it doesn't -/
/-! ### data that stay -/
section
variable {H H' : Hp}
mutual
theorem Dat.same (k : Same H H') : ∀ (d : PyData) {v : V}, Dat H v d → Dat H' v d
  | .none, _, h => by simp only [Dat] at h ⊢; exact h
  | .bool _, _, h => by simp only [Dat] at h ⊢; exact h
  | .int _, _, h => by simp only [Dat] at h ⊢; exact h
  | .str _, _, h => by simp only [Dat] at h ⊢; exact h
  | .list ds, _, h => by simp only [Dat] at h ⊢; obtain ⟨a, vs, e, q, r⟩ := h; exact ⟨a, vs, e, k _ _ q, Dats.same k ds r⟩
  | .tuple ds, _, h => by simp only [Dat] at h ⊢; obtain ⟨a, vs, e, q, r⟩ := h; exact ⟨a, vs, e, k _ _ q, Dats.same k ds r⟩
  | .dict _, _, h => by simp only [Dat] at h
theorem Dats.same (k : Same H H') : ∀ (ds : List PyData) {vs : List V}, Dats H vs ds → Dats H' vs ds
  | [], [], _ => by simp only [Dats]
  | d :: ds, v :: vs, h => by simp only [Dats] at h ⊢; exact ⟨Dat.same k d h.1, Dats.same k ds h.2⟩
  | _ :: _, [], h => by simp only [Dats] at h
  | [], _ :: _, h => by simp only [Dats] at h
end
end
/-! ### isinstance(x, (t1, t2)) of plain data -/
section
variable {X : Cx} {K : PySem.W.Frag}
end
section
variable {K : PySem.W.Frag} {a D : Addr} {xs : List V} {tc : TT} {te : TE} {Q : VK} {rest : St} {H1 : Hp}
end
/-! ### t + u, any tuples -/
section
variable {X : Cx}
end
end L2
set_option Elab.async false
set_option linter.all false
set_option maxRecDepth 100000
set_option maxHeartbeats 4000000
namespace L2
open PySem PySem.Spec PyProof.Rows
/-! ### xs[::-1] -/
section
variable {X : Cx} {K : PySem.W.Frag} {e st : Expr} {te tk : TE} {pos p2 : Pos}
end
end L2
set_option Elab.async false
set_option linter.all false
set_option maxRecDepth 100000
set_option maxHeartbeats 4000000
namespace L2
open PySem PySem.Spec PyProof.Rows
/-! ### data are one -/
section
variable {H : Hp}
mutual
theorem Dat.fn : ∀ (d e : PyData) {v : V}, Dat H v d → Dat H v e → d = e
  | .none, e, v, h, g => by cases e <;> simp only [Dat] at h g <;> first | rfl | (subst h; first | (obtain ⟨_, _, z, _⟩ := g; cases z; done) | (cases g; done))
  | .bool _, e, v, h, g => by cases e <;> simp only [Dat] at h g <;> first | (subst h; first | (injection g with g; rw [g]; done) | (obtain ⟨_, _, z, _⟩ := g; cases z; done) | (cases g; done))
  | .int _, e, v, h, g => by cases e <;> simp only [Dat] at h g <;> first | (subst h; first | (injection g with g; rw [g]; done) | (obtain ⟨_, _, z, _⟩ := g; cases z; done) | (cases g; done))
  | .str _, e, v, h, g => by cases e <;> simp only [Dat] at h g <;> first | (subst h; first | (injection g with g; rw [g]; done) | (obtain ⟨_, _, z, _⟩ := g; cases z; done) | (cases g; done))
  | .list ds, .list es, v, h, g => by
    simp only [Dat] at h g
    obtain ⟨a, vs, rfl, ha, da⟩ := h
    obtain ⟨b, ws, e, hb, db⟩ := g
    injection e with e
    subst e
    rw [ha] at hb
    injection hb with hb
    injection hb with hb
    subst hb
    rw [Dats.fn ds es da db]
  | .tuple ds, .tuple es, v, h, g => by
    simp only [Dat] at h g
    obtain ⟨a, vs, rfl, ha, da⟩ := h
    obtain ⟨b, ws, e, hb, db⟩ := g
    injection e with e
    subst e
    rw [ha] at hb
    injection hb with hb
    injection hb with hb
    subst hb
    rw [Dats.fn ds es da db]
  | .list ds, .tuple es, v, h, g => by
    simp only [Dat] at h g
    obtain ⟨a, vs, rfl, ha, da⟩ := h
    obtain ⟨b, ws, e, hb, db⟩ := g
    injection e with e
    subst e
    rw [ha] at hb
    injection hb with hb
    cases hb
  | .tuple ds, .list es, v, h, g => by
    simp only [Dat] at h g
    obtain ⟨a, vs, rfl, ha, da⟩ := h
    obtain ⟨b, ws, e, hb, db⟩ := g
    injection e with e
    subst e
    rw [ha] at hb
    injection hb with hb
    cases hb
  | .list ds, .none, v, h, g => by simp only [Dat] at h g; obtain ⟨a, vs, rfl, _⟩ := h; cases g
  | .list ds, .bool _, v, h, g => by simp only [Dat] at h g; obtain ⟨a, vs, rfl, _⟩ := h; cases g
  | .list ds, .int _, v, h, g => by simp only [Dat] at h g; obtain ⟨a, vs, rfl, _⟩ := h; cases g
  | .list ds, .str _, v, h, g => by simp only [Dat] at h g; obtain ⟨a, vs, rfl, _⟩ := h; cases g
  | .tuple ds, .none, v, h, g => by simp only [Dat] at h g; obtain ⟨a, vs, rfl, _⟩ := h; cases g
  | .tuple ds, .bool _, v, h, g => by simp only [Dat] at h g; obtain ⟨a, vs, rfl, _⟩ := h; cases g
  | .tuple ds, .int _, v, h, g => by simp only [Dat] at h g; obtain ⟨a, vs, rfl, _⟩ := h; cases g
  | .tuple ds, .str _, v, h, g => by simp only [Dat] at h g; obtain ⟨a, vs, rfl, _⟩ := h; cases g
  | .list ds, .dict _, v, h, g => by simp only [Dat] at g
  | .tuple ds, .dict _, v, h, g => by simp only [Dat] at g
  | .dict _, _, v, h, g => by simp only [Dat] at h
theorem Dats.fn : ∀ (ds es : List PyData) {vs : List V}, Dats H vs ds → Dats H vs es → ds = es
  | [], [], _, _, _ => rfl
  | d :: ds, e :: es, v :: vs, h, g => by
    simp only [Dats] at h g
    rw [Dat.fn d e h.1 g.1, Dats.fn ds es h.2 g.2]
  | [], _ :: _, [], _, g => by simp only [Dats] at g
  | [], _ :: _, _ :: _, h, _ => by simp only [Dats] at h
  | _ :: _, [], [], h, _ => by simp only [Dats] at h
  | _ :: _, [], _ :: _, _, g => by simp only [Dats] at g
  | _ :: _, _ :: _, [], h, _ => by simp only [Dats] at h
end
end
/-! ### xs.index(x), of tuples -/
section
variable {X : Cx}
end
end L2
set_option Elab.async false
set_option linter.all false
set_option maxRecDepth 100000
set_option maxHeartbeats 4000000
namespace L2
open PySem PySem.Spec PyProof.Rows
/-! ### f"..{n}" -/
section
variable {X : Cx} {K : PySem.W.Frag} {e e1 e2 l : Expr} {te t1 t2 tl : TE} {pos : Pos} {tg : Expr}
/-! ### walking a list or a tuple -/
end
section
variable {X : Cx}
end
end L2
set_option Elab.async false
set_option linter.all false
set_option maxRecDepth 100000
set_option maxHeartbeats 4000000
namespace L2
open PySem PySem.Spec PyProof.Rows PySem.Builtin PySem.Builtin.Str
/-! ### texts taken apart -/
section
variable {X : Cx} {K : PySem.W.Frag}
/-! ### the signs of a text, one by one -/
end
section
variable {K : PySem.W.Frag} {D : Addr} {tc : TT} {te : TE} {Q : VK} {rest : St} {H1 : Hp}
end
section
variable {X : Cx}
end
end L2
set_option Elab.async false
set_option linter.all false
set_option maxRecDepth 100000
set_option maxHeartbeats 4000000
namespace L2
open PySem PySem.Spec PyProof.Rows PySem.Builtin PySem.Builtin.Str
/-! ### a text put together of parts without the sign between, taken apart there again -/
/-! ### the texts of the numbers below 1000 -/
end L2
set_option Elab.async false
set_option linter.all false
set_option maxRecDepth 100000
set_option maxHeartbeats 4000000
namespace L2
open PySem PySem.Spec PyProof.Rows
/-! ### classes: methods and instances made -/
section
variable (P : Program) (w : World) (K : PySem.W.Frag) (mg : Str → Option Value) (base : Heap)
end
section
variable {P : Program} {w : World} {K : PySem.W.Frag} {mg : Str → Option Value} {base : Heap} {k : Nat} {C : Addr} {m x : Str} {ps : List Str} {sp : Sp} {dvs : List V}
end
section
variable {X : Cx} {k : Nat} {C : Addr} {x m : Str} {ps : List Str} {sp : Sp} {dvs : List V} {e o : Expr} {es : List Expr} {ta : TE} {t : TA} {p pos apos : Pos} {E : St → XK}
end
end L2
namespace L2
open PySem PySem.Spec PyProof.Rows PySem.Builtin PySem.Builtin.Str
/-! ### more of classes and texts -/
section
variable {X : Cx} {K : PySem.W.Frag} {o e value : Expr} {f : Str} {pos pos' tpos : Pos} {ta tv : TE}
end
/-! ### a def with defaults -/
structure FunD (K : PySem.W.Frag) (x qual : Str) (st : Stmt) (ds : List Value) (f : Addr) (fd : FuncData) : Prop where
  ex : ∃ (oc : Value) (od : Option Addr) (T : Addr) (kV doc pm : Value) (an : Option Addr) (cdv ct : Value) (osl : Array (Option Value)) (tc : Value) (td : Option Addr) (tn : Nat) (tsl : Array (Option Value)),
    fd = PySem.W.fnOf x qual (defArgs st) (defBody st) (defScope st) (.ref T) kV doc pm an cdv ct ∧ K.lookup f = some ⟨oc, od, .func fd, osl⟩ ∧ PySem.W.codeIn K cdv qual = true ∧ K.lookup T = some ⟨tc, td, .seq ds.toArray tn, tsl⟩
  kp : PySem.W.keepIn K (.ref f) = true
section
variable {P : Program} {w : World} {K : PySem.W.Frag} {mg : Str → Option Value} {base : Heap}
theorem FunD.okX {x qual : Str} {st : Stmt} {ds : List Value} {f : Addr} {fd : FuncData} {N ps : List Str} {k : Nat} {sp : Sp} (F : FunD K x qual st ds f fd) (S : FnScope N ps (defScope st)) (len : ∀ vs H Q E, sp vs H Q E → vs.length = ps.length)
    (hbody : ∀ (cdv : Value) (A : Around) (outer : List Env) (s : Shared) (H : Hp) (vs : List V) (Q : VK) (E : XK), Room k (A.deeper (envOfC qual (defScope st) s.heap.objs.size f cdv)) → sp vs H Q E →
      Rz (cxOf (CX1 P w) P w K mg base N qual (defScope st) f cdv A outer s H E) (fun _ => E) →
      ∃ t, PSs (cxOf (CX1 P w) P w K mg base N qual (defScope st) f cdv A outer s H E) (defBody st) t ∧ t { nx := fun _ H' => Q .non H', rt := Q } (start N vs) H) : FnOk P w K mg base (CX1 P w) (k + 1) f fd ps sp := by
  obtain ⟨oc, od, T, kV, doc, pm, an, cdv, ct, osl, tc, td, tn, tsl, rfl, lk, hcd, _⟩ := F.ex
  exact fn_of lk hcd S len fun A outer s H vs Q E hr hsp => hbody cdv A outer s H vs Q E hr hsp rz_leave
end
/-! ### an instance made with the last parameter by its name -/
section
variable {X : Cx} {k : Nat} {C : Addr} {x kn : Str} {ps : List Str} {sp : Sp} {e ke : Expr} {es : List Expr} {te : TE} {t : TA} {p pos kpos : Pos} {E : St → XK}
end
end L2
set_option Elab.async false
set_option linter.all false
set_option maxRecDepth 100000
set_option maxHeartbeats 4000000
namespace Tim
open PySem PyProof.Rows
/-! ### list.sort of any length: the order of the keys as a rank -/
def gallop' : Bool → Keyed → Array Keyed → Nat → Nat → Nat → StateT SortSt Sem (Option Nat) := sortPriv% PySem.Builtin.gallop
def beyond' (left : Bool) (key : Keyed) (arr : Array Keyed) (base i : Nat) : StateT SortSt Sem (Option Bool) := do
    let x ← elem' arr (base + i)
    if left then lt' x key else return (← lt' key x).map (!·)
theorem gallop'_eq (left : Bool) (key : Keyed) (arr : Array Keyed) (base n hint : Nat) : gallop' left key arr base n hint = (do
  let mut lastofs := 0
  let mut ofs := 1
  let mut lo := 0
  let mut hi := 0
  let some right ← beyond' left key arr base hint | return none
  if right then
    let maxofs := n - hint
    for _ in [0:n] do
      if ofs ≥ maxofs then break
      let some more ← beyond' left key arr base (hint + ofs) | return none
      if !more then break
      lastofs := ofs
      ofs := 2 * ofs + 1
    lo := hint + lastofs + 1
    hi := hint + min ofs maxofs
  else
    let maxofs := hint + 1
    for _ in [0:n] do
      if ofs ≥ maxofs then break
      let some found ← beyond' left key arr base (hint - ofs) | return none
      if found then break
      lastofs := ofs
      ofs := 2 * ofs + 1
    lo := hint + 1 - min ofs maxofs
    hi := hint - lastofs
  for _ in [0:n] do
    if lo ≥ hi then break
    let m := lo + (hi - lo) / 2
    let some more ← beyond' left key arr base m | return none
    if more then lo := m + 1 else hi := m
  return some hi) := rfl
section
variable {prog : Program} {w : World} {A : Around} {E : Value → Shared → Prop} {s : Shared} {κ : SortKind} {a₀ : Array Keyed} {rk : Value → Nat}
structure Cmp (prog : Program) (w : World) (A : Around) (s : Shared) (κ : SortKind) (a₀ : Array Keyed) (rk : Value → Nat) : Prop where
  ask : ∀ p ∈ a₀.toList, ∀ q ∈ a₀.toList, ∀ (E : Value → Shared → Prop) (Q : Bool → Shared → Prop), Q (decide (rk p.1 < rk q.1)) s → wpAny (model prog w) A (keyLt' κ p.1 q.1) Q E s
def R (rk : Value → Nat) (xs : Array Keyed) (i : Nat) : Nat := match xs[i]? with
  | some p => rk p.1
  | none => 0
theorem R_some {xs : Array Keyed} {i : Nat} {p : Keyed} (h : xs[i]? = some p) : R rk xs i = rk p.1 := by unfold R; rw [h]
theorem R_congr {xs ys : Array Keyed} {i j : Nat} (h : xs[i]? = ys[j]?) : R rk xs i = R rk ys j := by unfold R; rw [h]
theorem wpS_lt {st : SortSt} {p q : Keyed} {Q : Option Bool → SortSt → Prop} (C : Cmp prog w A s κ a₀ rk) (hk : kindOf st = κ) (hp : p ∈ a₀.toList) (hq : q ∈ a₀.toList) (h : Q (some (decide (rk p.1 < rk q.1))) st) :
    wpS (model prog w) A E s (lt' p q) Q st := by
  rw [lt'_eq]
  refine wpS_bind (wpS_get ?_)
  rw [hk]
  refine wpS_bind (wpS_lift (wpAny_attempt (C.ask p hp q hq _ _ ⟨rfl, ?_⟩)))
  exact wpS_pure h
theorem wpS_elem {st : SortSt} {arr : Array Keyed} {i : Nat} {p : Keyed} {Q : Keyed → SortSt → Prop} (hi : arr[i]? = some p) (h : Q p st) : wpS (model prog w) A E s (elem' arr i) Q st := by
  rw [elem'_eq, hi]
  exact wpS_pure h
def By (left : Bool) (k r : Nat) : Bool := if left then decide (r < k) else !decide (k < r)
theorem wpS_beyond {st : SortSt} {left : Bool} {key : Keyed} {arr : Array Keyed} {base i : Nat} {Q : Option Bool → SortSt → Prop} (C : Cmp prog w A s κ a₀ rk) (hk : kindOf st = κ) (hkey : key ∈ a₀.toList) (harr : ∀ p ∈ arr.toList, p ∈ a₀.toList)
    (hi : base + i < arr.size) (h : Q (some (By left (rk key.1) (R rk arr (base + i)))) st) : wpS (model prog w) A E s (beyond' left key arr base i) Q st := by
  unfold beyond'
  have e : arr[base + i]? = some arr[base + i] := getElem?_pos arr (base + i) hi
  have hm : arr[base + i] ∈ a₀.toList := harr _ (by simp)
  rw [R_some e] at h
  refine wpS_bind (wpS_elem e ?_)
  cases left with
  | true => exact wpS_lt C hk hm hkey h
  | false => exact wpS_bind (wpS_lt C hk hkey hm (wpS_pure h))
theorem By_anti {left : Bool} {k r r' : Nat} (h : By left k r = true) (le : r' ≤ r) : By left k r' = true := by
  unfold By at *
  cases left <;> simp at * <;> omega
theorem By_anti' {left : Bool} {k r r' : Nat} (h : By left k r = false) (le : r ≤ r') : By left k r' = false := by
  unfold By at *
  cases left <;> simp at * <;> omega
def Seg (rk : Value → Nat) (xs : Array Keyed) (lo hi : Nat) : Prop := ∀ i j, lo ≤ i → i ≤ j → j < hi → R rk xs i ≤ R rk xs j
abbrev GSt := Option (Option Nat) × Nat × Nat
theorem wpS_binLoop {st : SortSt} {left : Bool} {key : Keyed} {arr : Array Keyed} {base n lo hi : Nat} {Q : GSt → SortSt → Prop} (C : Cmp prog w A s κ a₀ rk) (hk : kindOf st = κ) (hkey : key ∈ a₀.toList) (harr : ∀ p ∈ arr.toList, p ∈ a₀.toList)
    (hn : base + n ≤ arr.size) (hs : Seg rk arr base (base + n)) (hlh : lo ≤ hi) (hhn : hi ≤ n)
    (h1 : ∀ i, i < lo → By left (rk key.1) (R rk arr (base + i)) = true) (h2 : ∀ i, hi ≤ i → i < n → By left (rk key.1) (R rk arr (base + i)) = false)
    (h : ∀ k l, k ≤ n → (∀ i, i < k → By left (rk key.1) (R rk arr (base + i)) = true) → (∀ i, k ≤ i → i < n → By left (rk key.1) (R rk arr (base + i)) = false) → Q (none, l, k) st) :
    wpS (model prog w) A E s (forIn [0:n] ((none, lo, hi) : GSt) fun _ __s =>
                if __s.snd.fst ≥ __s.snd.snd then pure (ForInStep.done (none, __s.snd.fst, __s.snd.snd))
                else do
                  let __x ← beyond' left key arr base (__s.snd.fst + (__s.snd.snd - __s.snd.fst) / 2)
                  match __x with
                    | some more =>
                      if more = true then
                        pure (ForInStep.yield (none, __s.snd.fst + (__s.snd.snd - __s.snd.fst) / 2 + 1, __s.snd.snd))
                      else pure (ForInStep.yield (none, __s.snd.fst, __s.snd.fst + (__s.snd.snd - __s.snd.fst) / 2))
                    | _ => pure (ForInStep.done (some none, __s.snd.fst, __s.snd.snd))) Q st := by
  refine wpS_forRange (I := fun x c st' => st' = st ∧ ∃ lo hi, c = (none, lo, hi) ∧ lo ≤ hi ∧ hi ≤ n ∧ hi - lo ≤ n - x ∧ (∀ i, i < lo → By left (rk key.1) (R rk arr (base + i)) = true) ∧ (∀ i, hi ≤ i → i < n → By left (rk key.1) (R rk arr (base + i)) = false)) ?step ?fin ⟨rfl, lo, hi, rfl, hlh, hhn, by omega, h1, h2⟩
  case fin =>
    rintro c st' ⟨rfl, lo, hi, rfl, a1, a2, a3, a4, a5⟩
    have : lo = hi := by omega
    subst this
    exact h _ _ a2 a4 a5
  case step =>
    rintro x c st' _ hx ⟨rfl, lo, hi, rfl, a1, a2, a3, a4, a5⟩
    dsimp only
    by_cases hge : lo ≥ hi
    · rw [if_pos hge]
      have : lo = hi := by omega
      subst this
      exact wpS_pure (h _ _ a2 a4 a5)
    · rw [if_neg hge]
      refine wpS_bind (wpS_beyond C hk hkey harr (by omega) ?_)
      dsimp only
      cases hb : By left (rk key.1) (R rk arr (base + (lo + (hi - lo) / 2))) with
      | true =>
        simp only [if_true]
        refine wpS_pure ⟨rfl, _, _, rfl, by omega, a2, by omega, fun i hi' => ?_, a5⟩
        exact By_anti hb (hs _ _ (by omega) (by omega) (by omega))
      | false =>
        simp only [Bool.false_eq_true, if_false]
        refine wpS_pure ⟨rfl, _, _, rfl, by omega, by omega, by omega, a4, fun i hi' hin => ?_⟩
        exact By_anti' hb (hs _ _ (by omega) (by omega) (by omega))
theorem wpS_gallop {st : SortSt} {left : Bool} {key : Keyed} {arr : Array Keyed} {base n hint : Nat} {Q : Option Nat → SortSt → Prop} (C : Cmp prog w A s κ a₀ rk) (hk : kindOf st = κ) (hkey : key ∈ a₀.toList) (harr : ∀ p ∈ arr.toList, p ∈ a₀.toList)
    (hn : base + n ≤ arr.size) (hh : hint < n) (hs : Seg rk arr base (base + n))
    (h : ∀ k, k ≤ n → (∀ i, i < k → By left (rk key.1) (R rk arr (base + i)) = true) → (∀ i, k ≤ i → i < n → By left (rk key.1) (R rk arr (base + i)) = false) → Q (some k) st) :
    wpS (model prog w) A E s (gallop' left key arr base n hint) Q st := by
  rw [gallop'_eq]
  refine wpS_bind (wpS_beyond C hk hkey harr (by omega) ?_)
  dsimp only
  cases hr : By left (rk key.1) (R rk arr (base + hint)) with
  | true =>
    simp only [if_true]
    refine wpS_bind (wpS_mono (wpS_forRange (I := fun x c st' => st' = st ∧ ∃ l o, c = (none, l, o) ∧ l < o ∧ x < o ∧ hint + l < n ∧ By left (rk key.1) (R rk arr (base + (hint + l))) = true)
      (Q := fun c st' => st' = st ∧ ∃ l o, c = (none, l, o) ∧ l < o ∧ hint + l < n ∧ By left (rk key.1) (R rk arr (base + (hint + l))) = true ∧ (o < n - hint → By left (rk key.1) (R rk arr (base + (hint + o))) = false)) ?step ?fin ⟨rfl, 0, 1, rfl, by omega, by omega, by omega, hr⟩) ?post)
    case fin =>
      rintro c st' ⟨rfl, l, o, rfl, a1, a2, a3, a4⟩
      exact ⟨rfl, l, o, rfl, a1, a3, a4, fun z => by omega⟩
    case step =>
      rintro x c st' _ hx ⟨rfl, l, o, rfl, a1, a2, a3, a4⟩
      dsimp only
      by_cases hge : o ≥ n - hint
      · rw [if_pos hge]
        exact wpS_pure ⟨rfl, l, o, rfl, a1, a3, a4, fun z => by omega⟩
      · rw [if_neg hge]
        refine wpS_bind (wpS_beyond C hk hkey harr (by omega) ?_)
        dsimp only
        cases hb : By left (rk key.1) (R rk arr (base + (hint + o))) with
        | true =>
          simp only [Bool.not_true, Bool.false_eq_true, if_false]
          exact wpS_pure ⟨rfl, o, 2 * o + 1, rfl, by omega, by omega, by omega, hb⟩
        | false =>
          simp only [Bool.not_false, if_true]
          exact wpS_pure ⟨rfl, l, o, rfl, a1, a3, a4, fun _ => hb⟩
    case post =>
      rintro c st' ⟨rfl, l, o, rfl, a1, a2, a3, a4⟩
      dsimp only
      refine wpS_bind (wpS_binLoop C hk hkey harr hn hs (by omega) (by omega) (fun i hi => ?_) (fun i hi hin => ?_) fun k l' b1 b2 b3 => wpS_pure (h k b1 b2 b3))
      · exact By_anti a3 (hs _ _ (by omega) (by omega) (by omega))
      · exact By_anti' (a4 (by omega)) (hs _ _ (by omega) (by omega) (by omega))
  | false =>
    simp only [Bool.false_eq_true, if_false]
    refine wpS_bind (wpS_mono (wpS_forRange (I := fun x c st' => st' = st ∧ ∃ l o, c = (none, l, o) ∧ l < o ∧ x < o ∧ l ≤ hint ∧ By left (rk key.1) (R rk arr (base + (hint - l))) = false)
      (Q := fun c st' => st' = st ∧ ∃ l o, c = (none, l, o) ∧ l < o ∧ l ≤ hint ∧ By left (rk key.1) (R rk arr (base + (hint - l))) = false ∧ (o < hint + 1 → By left (rk key.1) (R rk arr (base + (hint - o))) = true)) ?step ?fin ⟨rfl, 0, 1, rfl, by omega, by omega, by omega, hr⟩) ?post)
    case fin =>
      rintro c st' ⟨rfl, l, o, rfl, a1, a2, a3, a4⟩
      exact ⟨rfl, l, o, rfl, a1, a3, a4, fun z => by omega⟩
    case step =>
      rintro x c st' _ hx ⟨rfl, l, o, rfl, a1, a2, a3, a4⟩
      dsimp only
      by_cases hge : o ≥ hint + 1
      · rw [if_pos hge]
        exact wpS_pure ⟨rfl, l, o, rfl, a1, a3, a4, fun z => by omega⟩
      · rw [if_neg hge]
        refine wpS_bind (wpS_beyond C hk hkey harr (by omega) ?_)
        dsimp only
        cases hb : By left (rk key.1) (R rk arr (base + (hint - o))) with
        | true =>
          simp only [if_true]
          exact wpS_pure ⟨rfl, l, o, rfl, a1, a3, a4, fun _ => hb⟩
        | false =>
          simp only [Bool.false_eq_true, if_false]
          exact wpS_pure ⟨rfl, o, 2 * o + 1, rfl, by omega, by omega, by omega, hb⟩
    case post =>
      rintro c st' ⟨rfl, l, o, rfl, a1, a2, a3, a4⟩
      dsimp only
      refine wpS_bind (wpS_binLoop C hk hkey harr hn hs (by omega) (by omega) (fun i hi => ?_) (fun i hi hin => ?_) fun k l' b1 b2 b3 => wpS_pure (h k b1 b2 b3))
      · exact By_anti (a4 (by omega)) (hs _ _ (by omega) (by omega) (by omega))
      · exact By_anti' a3 (hs _ _ (by omega) (by omega) (by omega))
end
end Tim
set_option Elab.async false
set_option linter.all false
set_option maxRecDepth 100000
set_option maxHeartbeats 4000000
namespace Tim
open PySem PyProof.Rows
def setMinGallop' : Nat → StateT SortSt Sem Unit := sortPriv% PySem.Builtin.setMinGallop
theorem setMinGallop'_eq (g : Nat) : setMinGallop' g = modify fun s => SortSt.mk' (kindOf s) (arrOf s) (pendingOf s) g (failedOf s) := rfl
def mergeLo' : Array Keyed → Array Keyed → StateT SortSt Sem (Array Keyed) := sortPriv% PySem.Builtin.mergeLo
def mergeHi' : Array Keyed → Array Keyed → StateT SortSt Sem (Array Keyed) := sortPriv% PySem.Builtin.mergeHi
abbrev loDone (a b out : Array Keyed) (ia ib : Nat) : Array Keyed := out ++ a.extract ia a.size ++ b.extract ib b.size
abbrev loLast (a b out : Array Keyed) (ia ib : Nat) : Array Keyed := out ++ b.extract ib b.size ++ a.extract ia a.size
theorem mergeLo'_eq (a b : Array Keyed) : mergeLo' a b = (do
  rule "list.sort.merge-lo"
  let total := a.size + b.size
  let mut out : Array Keyed := #[← elem' b 0]
  let mut ia := 0
  let mut ib := 1
  if ib == b.size then return loDone a b out ia ib
  if ia + 1 == a.size then return loLast a b out ia ib
  let mut minGallop := gallopOf (← get)
  for _ in [0:total] do
    let mut acount := 0
    let mut bcount := 0
    for _ in [0:total] do
      let some bWins ← lt' (← elem' b ib) (← elem' a ia) | return loDone a b out ia ib
      if bWins then
        out := out.push (← elem' b ib); ib := ib + 1; bcount := bcount + 1; acount := 0
        if ib == b.size then return loDone a b out ia ib
        if bcount ≥ minGallop then break
      else
        out := out.push (← elem' a ia); ia := ia + 1; acount := acount + 1; bcount := 0
        if ia + 1 == a.size then return loLast a b out ia ib
        if acount ≥ minGallop then break
    rule "list.sort.gallop"
    minGallop := minGallop + 1
    for _ in [0:total] do
      if minGallop > 1 then minGallop := minGallop - 1
      setMinGallop' minGallop
      let some k ← gallop' false (← elem' b ib) a ia (a.size - ia) 0 | return loDone a b out ia ib
      acount := k
      if k > 0 then
        out := out ++ a.extract ia (ia + k); ia := ia + k
        if ia + 1 == a.size then return loLast a b out ia ib
        if ia == a.size then return loDone a b out ia ib
      out := out.push (← elem' b ib); ib := ib + 1
      if ib == b.size then return loDone a b out ia ib
      let some k ← gallop' true (← elem' a ia) b ib (b.size - ib) 0 | return loDone a b out ia ib
      bcount := k
      if k > 0 then
        out := out ++ b.extract ib (ib + k); ib := ib + k
        if ib == b.size then return loDone a b out ia ib
      out := out.push (← elem' a ia); ia := ia + 1
      if ia + 1 == a.size then return loLast a b out ia ib
      if acount < 7 && bcount < 7 then break
    minGallop := minGallop + 1
    setMinGallop' minGallop
  unsupported "internal:list.sort.merge-bound") := rfl
section
variable {rk : Value → Nat} {a b out : Array Keyed} {ia ib k : Nat}
def Le (rk : Value → Nat) (x y : Keyed) : Prop := rk x.1 ≤ rk y.1
def Srt (rk : Value → Nat) (l : List Keyed) : Prop := l.Pairwise (Le rk)
structure MI (rk : Value → Nat) (a b out : Array Keyed) (ia ib : Nat) : Prop where
  perm : (out.toList ++ (a.toList.drop ia ++ b.toList.drop ib)).Perm (a.toList ++ b.toList)
  sa : Srt rk (out.toList ++ a.toList.drop ia)
  sb : Srt rk (out.toList ++ b.toList.drop ib)
structure Mg (rk : Value → Nat) (a b r : Array Keyed) : Prop where
  perm : r.toList.Perm (a.toList ++ b.toList)
  srt : Srt rk r.toList
theorem ext_list (a : Array Keyed) (i j : Nat) : (a.extract i j).toList = (a.toList.drop i).take (j - i) := by
  rw [Array.toList_extract, List.extract_eq_take_drop]
theorem drop_split (l : List Keyed) (i k : Nat) : l.drop i = (l.drop i).take k ++ l.drop (i + k) := by
  rw [← List.drop_drop, List.take_append_drop]
theorem R_get {a : Array Keyed} {i : Nat} (h : i < a.size) : R rk a i = rk (a[i]).1 := R_some (getElem?_pos a i h)
theorem mem_drop {a : Array Keyed} {x : Keyed} (h : x ∈ a.toList.drop ia) : ∃ j, ia ≤ j ∧ j < a.size ∧ R rk a j = rk x.1 := by
  obtain ⟨j, hj, e⟩ := List.getElem_of_mem h
  rw [List.length_drop, Array.length_toList] at hj
  rw [List.getElem_drop, Array.getElem_toList] at e
  exact ⟨ia + j, by (clear e hj; omega), by (clear e; omega), by rw [R_get (by (clear e; omega)), e]⟩
theorem mem_take_drop {a : Array Keyed} {x : Keyed} (h : x ∈ (a.toList.drop ia).take k) : ∃ j, j < k ∧ ia + j < a.size ∧ R rk a (ia + j) = rk x.1 := by
  obtain ⟨j, hj, e⟩ := List.getElem_of_mem h
  rw [List.length_take, List.length_drop, Array.length_toList] at hj
  rw [List.getElem_take, List.getElem_drop, Array.getElem_toList] at e
  exact ⟨j, by (clear e; omega), by (clear e; omega), by rw [R_get (by (clear e; omega)), e]⟩
theorem srt_app {x y : List Keyed} : Srt rk (x ++ y) ↔ Srt rk x ∧ Srt rk y ∧ ∀ p ∈ x, ∀ q ∈ y, rk p.1 ≤ rk q.1 := List.pairwise_append
theorem MI.chunkB (m : MI rk a b out ia ib) (hle : ∀ i, i < k → ib + i < b.size → ∀ j, ia ≤ j → j < a.size → R rk b (ib + i) ≤ R rk a j) : MI rk a b (out ++ b.extract ib (ib + k)) ia (ib + k) := by
  have e : (out ++ b.extract ib (ib + k)).toList = out.toList ++ (b.toList.drop ib).take k := by rw [Array.toList_append, ext_list]; congr 2; omega
  have sp := drop_split b.toList ib k
  refine ⟨?_, ?_, ?_⟩
  · rw [e]
    refine List.Perm.trans ?_ m.perm
    rw [List.append_assoc]
    refine List.Perm.append_left _ ?_
    refine List.Perm.trans ?_ (List.Perm.of_eq (congrArg (a.toList.drop ia ++ ·) sp.symm))
    rw [← List.append_assoc]
    refine List.Perm.trans (List.Perm.append_right _ (List.perm_append_comm)) (List.Perm.of_eq (List.append_assoc _ _ _))
  · rw [e, List.append_assoc]
    have h1 := srt_app.mp m.sa
    have h2 := m.sb
    rw [sp] at h2
    have h3 := srt_app.mp h2
    have h4 := srt_app.mp h3.2.1
    refine srt_app.mpr ⟨h1.1, srt_app.mpr ⟨h4.1, h1.2.1, fun p hp q hq => ?_⟩, fun p hp q hq => ?_⟩
    · obtain ⟨i, i1, i2, i3⟩ := mem_take_drop (rk := rk) hp
      obtain ⟨j, j1, j2, j3⟩ := mem_drop (rk := rk) hq
      rw [← i3, ← j3]
      exact hle i i1 i2 j j1 j2
    · rcases List.mem_append.mp hq with hq | hq
      · exact h3.2.2 p hp q (List.mem_append_left _ hq)
      · exact h1.2.2 p hp q hq
  · rw [e, List.append_assoc, ← sp]
    exact m.sb
theorem MI.swap (m : MI rk a b out ia ib) : MI rk b a out ib ia := ⟨(List.Perm.append_left _ List.perm_append_comm).trans (m.perm.trans List.perm_append_comm), m.sb, m.sa⟩
theorem MI.chunkA (m : MI rk a b out ia ib) (hle : ∀ i, i < k → ia + i < a.size → ∀ j, ib ≤ j → j < b.size → R rk a (ia + i) ≤ R rk b j) : MI rk a b (out ++ a.extract ia (ia + k)) (ia + k) ib := (m.swap.chunkB hle).swap
theorem push_ext (h : ib < b.size) : out.push b[ib] = out ++ b.extract ib (ib + 1) := by
  apply Array.toList_inj.mp
  rw [Array.toList_push, Array.toList_append, ext_list]
  congr 1
  rw [show ib + 1 - ib = 1 by (clear h; omega), List.drop_eq_getElem_cons (by rw [Array.length_toList]; exact h)]
  rfl
theorem MI.pushB (m : MI rk a b out ia ib) (h : ib < b.size) (hle : ∀ j, ia ≤ j → j < a.size → R rk b ib ≤ R rk a j) : MI rk a b (out.push b[ib]) ia (ib + 1) := by
  rw [push_ext h]
  refine m.chunkB (k := 1) fun i hi hb j j1 j2 => ?_
  have : i = 0 := by (clear j2 j1 hb h; omega)
  subst this
  exact hle j j1 j2
theorem MI.pushA (m : MI rk a b out ia ib) (h : ia < a.size) (hle : ∀ j, ib ≤ j → j < b.size → R rk a ia ≤ R rk b j) : MI rk a b (out.push a[ia]) (ia + 1) ib := (m.swap.pushB h hle).swap
theorem MI.done (m : MI rk a b out ia ib) (h : ia = a.size ∨ ib = b.size) : Mg rk a b (loDone a b out ia ib) := by
  have e : (loDone a b out ia ib).toList = out.toList ++ (a.toList.drop ia ++ b.toList.drop ib) := by
    unfold loDone
    rw [Array.toList_append, Array.toList_append, ext_list, ext_list, List.append_assoc]
    congr 2
    · rw [List.take_of_length_le]; rw [List.length_drop, Array.length_toList]; exact Nat.le_refl _
    · rw [List.take_of_length_le]; rw [List.length_drop, Array.length_toList]; exact Nat.le_refl _
  refine ⟨by rw [e]; exact m.perm, ?_⟩
  rw [e]
  rcases h with h | h
  · rw [h, show a.toList.drop a.size = [] by rw [List.drop_eq_nil_of_le]; rw [Array.length_toList]; exact Nat.le_refl _, List.nil_append]
    exact m.sb
  · rw [h, show b.toList.drop b.size = [] by rw [List.drop_eq_nil_of_le]; rw [Array.length_toList]; exact Nat.le_refl _, List.append_nil]
    exact m.sa
theorem MI.last (m : MI rk a b out ia ib) (h : ∀ i j, ib ≤ i → i < b.size → ia ≤ j → j < a.size → R rk b i ≤ R rk a j) : Mg rk a b (loLast a b out ia ib) := by
  have m2 := m.chunkB (k := b.size - ib) fun i hi hb j j1 j2 => h _ _ (by (clear j2 j1 hb hi; omega)) hb j1 j2
  have e : (loLast a b out ia ib) = loDone a b (out ++ b.extract ib (ib + (b.size - ib))) ia (ib + (b.size - ib)) := by
    unfold loDone loLast
    apply Array.toList_inj.mp
    simp only [Array.toList_append, ext_list]
    have e1 : (b.toList.drop (ib + (b.size - ib))).take (b.size - (ib + (b.size - ib))) = [] := by
      rw [List.take_eq_nil_iff]; left; omega
    rw [e1, List.append_nil]
    congr 3
    (clear e1; omega)
  rw [e]
  by_cases hb : ib ≤ b.size
  · exact m2.done (.inr (by (clear e; omega)))
  · refine ⟨?_, ?_⟩
    · have := m2.perm
      have e2 : (loDone a b (out ++ b.extract ib (ib + (b.size - ib))) ia (ib + (b.size - ib))).toList = (out ++ b.extract ib (ib + (b.size - ib))).toList ++ (a.toList.drop ia ++ b.toList.drop (ib + (b.size - ib))) := by
        unfold loDone
        rw [Array.toList_append, Array.toList_append, ext_list, ext_list, List.append_assoc]
        congr 2
        · rw [List.take_of_length_le]; rw [List.length_drop, Array.length_toList]; exact Nat.le_refl _
        · rw [List.take_of_length_le]; rw [List.length_drop, Array.length_toList]; exact Nat.le_refl _
      rw [e2]; exact this
    · unfold loDone
      rw [Array.toList_append, Array.toList_append, ext_list (a := b) (i := ib + (b.size - ib)), show b.size - (ib + (b.size - ib)) = 0 by (clear hb e; omega), List.take_zero, List.append_nil, ext_list (a := a)]
      rw [List.take_of_length_le (by rw [List.length_drop, Array.length_toList]; exact Nat.le_refl _)]
      exact m2.sa
end
end Tim
set_option Elab.async false
set_option linter.all false
set_option maxRecDepth 100000
set_option maxHeartbeats 4000000
namespace Tim
open PySem PyProof.Rows
section
variable {prog : Program} {w : World} {A : Around} {E : Value → Shared → Prop} {s : Shared} {κ : SortKind} {a₀ : Array Keyed} {rk : Value → Nat}
/-- what the state keeps while two runs are merged -/
structure Kpt (st st' : SortSt) : Prop where
  k : kindOf st' = kindOf st
  a : arrOf st' = arrOf st
  p : pendingOf st' = pendingOf st
  f : failedOf st' = failedOf st
theorem Kpt.refl (st : SortSt) : Kpt st st := ⟨rfl, rfl, rfl, rfl⟩
theorem Kpt.trans {a b c : SortSt} (h : Kpt a b) (g : Kpt b c) : Kpt a c := ⟨g.k.trans h.k, g.a.trans h.a, g.p.trans h.p, g.f.trans h.f⟩
theorem wpS_setMG {st : SortSt} {g : Nat} {Q : Unit → SortSt → Prop} (h : ∀ st', Kpt st st' → Q () st') : wpS (model prog w) A E s (setMinGallop' g) Q st := by
  rw [setMinGallop'_eq]
  exact wpS_modify (h _ ⟨rfl, rfl, rfl, rfl⟩)
theorem wpS_ite {α : Type} {c : Prop} [Decidable c] {x y : StateT SortSt Sem α} {Q : α → SortSt → Prop} {st : SortSt} (h1 : c → wpS (model prog w) A E s x Q st) (h2 : ¬ c → wpS (model prog w) A E s y Q st) : wpS (model prog w) A E s (if c then x else y) Q st := by
  by_cases hc : c
  · rw [if_pos hc]; exact h1 hc
  · rw [if_neg hc]; exact h2 hc
theorem By_t {k r : Nat} (h : By true k r = true) : r < k := by simpa [By] using h
theorem By_f {k r : Nat} (h : By false k r = true) : r ≤ k := by simpa [By] using h
theorem By_t' {k r : Nat} (h : By true k r = false) : k ≤ r := by simpa [By] using h
theorem By_f' {k r : Nat} (h : By false k r = false) : k < r := by simpa [By] using h
theorem wpS_mergeLo {st : SortSt} {a b : Array Keyed} {Q : Array Keyed → SortSt → Prop} (C : Cmp prog w A s κ a₀ rk) (hk : kindOf st = κ) (ha : ∀ p ∈ a.toList, p ∈ a₀.toList) (hb : ∀ p ∈ b.toList, p ∈ a₀.toList)
    (ha1 : 1 ≤ a.size) (hb1 : 1 ≤ b.size) (sa : Seg rk a 0 a.size) (sb : Seg rk b 0 b.size) (h0 : R rk b 0 ≤ R rk a 0) (hl : R rk b (b.size - 1) ≤ R rk a (a.size - 1))
    (h : ∀ r st', Kpt st st' → Mg rk a b r → Q r st') : wpS (model prog w) A E s (mergeLo' a b) Q st := by
  have inb : ∀ i, i < b.size → ∃ p, b[i]? = some p ∧ p ∈ a₀.toList ∧ R rk b i = rk p.1 := fun i hi => ⟨b[i], getElem?_pos b i hi, hb _ (by simp), R_get hi⟩
  have ina : ∀ i, i < a.size → ∃ p, a[i]? = some p ∧ p ∈ a₀.toList ∧ R rk a i = rk p.1 := fun i hi => ⟨a[i], getElem?_pos a i hi, ha _ (by simp), R_get hi⟩
  have mid : ∀ i j, i < b.size → j + 1 = a.size → R rk b i ≤ R rk a j := fun i j hi hj => by
    have := sb i (b.size - 1) (by (clear hj hi hl h0 hb1 ha1 hk; lia)) (by (clear hj hl h0 hb1 ha1 hk; lia)) (by (clear hj hi hl h0 ha1 hk; lia))
    have e : a.size - 1 = j := by (clear this hi hl h0 hb1 ha1 hk; lia)
    rw [e] at hl
    (clear e hj hi h0 hb1 ha1 hk; lia)
  have m0 : MI rk a b #[b[0]] 0 1 := by
    have m : MI rk a b #[] 0 0 := by
      refine ⟨by simp, ?_, ?_⟩
      · show Srt rk ([] ++ a.toList.drop 0)
        rw [List.nil_append, List.drop_zero]
        refine List.pairwise_iff_getElem.mpr fun i j hi hj hij => ?_
        rw [Array.length_toList] at hi hj
        have := sa i j (by (clear hij hj hi hl h0 hb1 ha1 hk; lia)) (by (clear hj hi hl h0 hb1 ha1 hk; lia)) hj
        rw [R_get hi, R_get hj] at this
        simpa [Le] using this
      · show Srt rk ([] ++ b.toList.drop 0)
        rw [List.nil_append, List.drop_zero]
        refine List.pairwise_iff_getElem.mpr fun i j hi hj hij => ?_
        rw [Array.length_toList] at hi hj
        have := sb i j (by (clear hij hj hi hl h0 hb1 ha1 hk; lia)) (by (clear hj hi hl h0 hb1 ha1 hk; lia)) hj
        rw [R_get hi, R_get hj] at this
        simpa [Le] using this
    exact m.pushB (by (clear hl h0 ha1 hk; lia)) fun j _ j2 => Nat.le_trans h0 (sa 0 j (by (clear j2 hl h0 hb1 ha1 hk; lia)) (by (clear j2 hl h0 hb1 ha1 hk; lia)) j2)
  rw [mergeLo'_eq]
  refine wpS_bind (wpS_lift (wpAny_rule ⟨rfl, ?_⟩))
  refine wpS_bind (wpS_elem (p := b[0]) (getElem?_pos b 0 (by (clear hl h0 ha1 hk; lia))) ?_)
  dsimp only
  refine wpS_ite (fun e => ?_) (fun e => ?_)
  · have e : 1 = b.size := by simpa using e
    exact wpS_pure (h _ _ (.refl _) (m0.done (.inr e)))
  have eb : ¬ 1 = b.size := by simpa using e
  refine wpS_ite (fun e => ?_) (fun e => ?_)
  · have e : 1 = a.size := by simpa using e
    exact wpS_pure (h _ _ (.refl _) (m0.last fun i j _ hi _ hj => mid i j hi (by (clear hi eb hl h0 ha1 hk; lia))))
  have ea : ¬ 1 = a.size := by simpa using e
  refine wpS_bind (wpS_get ?_)
  refine wpS_bind (wpS_mono (wpS_forRange (I := fun x c st' => Kpt st st' ∧ ∃ out ia ib mg, c = (none, out, ia, ib, mg) ∧ MI rk a b out ia ib ∧ ia + 2 ≤ a.size ∧ ib + 1 ≤ b.size ∧ (a.size - ia) + (b.size - ib) + x ≤ a.size + b.size)
      (Q := fun c st' => Kpt st st' ∧ ∃ r cc, c = (some r, cc) ∧ Mg rk a b r) ?step ?fin ⟨.refl _, _, _, _, _, rfl, m0, by (clear e eb hl h0 hk; lia), by (clear ea e hl h0 ha1 hk; lia), by (clear ea e eb hl h0 ha1 hk; lia)⟩) ?post)
  case post =>
    rintro c st' ⟨kp, r, cc, rfl, m⟩
    exact wpS_pure (h _ _ kp m)
  case fin =>
    rintro c st' ⟨kp, out, ia, ib, mg, rfl, m, a1, b1, le⟩
    (clear b1 ea e eb hl h0 ha1 hk; lia)
  case step =>
    rintro x c st' _ hx ⟨kp, out, ia, ib, mg, rfl, m, a1, b1, le⟩
    dsimp only
    -- one by one
    refine wpS_bind (wpS_mono (wpS_forRange (I := fun y c st2 => st2 = st' ∧ ∃ out ia ib ac bc, c = (none, out, ia, ib, ac, bc) ∧ MI rk a b out ia ib ∧ ia + 2 ≤ a.size ∧ ib + 1 ≤ b.size ∧ (a.size - ia) + (b.size - ib) + x + y ≤ a.size + b.size)
      (Q := fun c st2 => st2 = st' ∧ ((∃ r cc, c = (some r, cc) ∧ Mg rk a b r) ∨ ∃ out ia ib ac bc, c = (none, out, ia, ib, ac, bc) ∧ MI rk a b out ia ib ∧ ia + 2 ≤ a.size ∧ ib + 1 ≤ b.size ∧ (a.size - ia) + (b.size - ib) + x + 1 ≤ a.size + b.size)) ?step1 ?fin1 ⟨rfl, _, _, _, _, _, rfl, m, a1, b1, by (clear b1 a1 hx ea e eb hl h0 ha1 hk; lia)⟩) ?post1)
    case fin1 =>
      rintro c st2 ⟨rfl, out, ia, ib, ac, bc, rfl, m, a1, b1, le⟩
      (clear b1 hx ea e eb hl h0 ha1 hk; lia)
    case step1 =>
      rintro y c st2 _ hy ⟨rfl, out, ia, ib, ac, bc, rfl, m, a1, b1, le⟩
      dsimp only
      obtain ⟨p, ep, mp, rp⟩ := inb ib (by (clear le a1 hy hx ea e eb hl h0 ha1 hk; lia))
      obtain ⟨q, eq, mq, rq⟩ := ina ia (by (clear rp ep le b1 hy hx ea e eb hl h0 ha1 hk; lia))
      refine wpS_bind (wpS_elem ep (wpS_bind (wpS_elem eq (wpS_bind (wpS_lt C (kp.k.trans hk) mp mq ?_)))))
      dsimp only
      have epb : p = b[ib] := by rw [getElem?_pos b ib (by (clear rq eq rp ep le a1 hy hx ea e eb hl h0 ha1 hk; lia))] at ep; exact (Option.some.inj ep).symm
      have eqa : q = a[ia] := by rw [getElem?_pos a ia (by (clear epb rq eq rp ep le b1 hy hx ea e eb hl h0 ha1 hk; lia))] at eq; exact (Option.some.inj eq).symm
      refine wpS_ite (fun lt => ?_) (fun lt => ?_)
      · have lt : R rk b ib < R rk a ia := by rw [rp, rq]; simpa using lt
        have m2 : MI rk a b (out.push p) ia (ib + 1) := by
          rw [epb]
          exact m.pushB (by (clear lt eqa epb rq eq rp ep le a1 hy hx ea e eb hl h0 ha1 hk; lia)) fun j j1 j2 => by have := sa ia j (by (clear j2 j1 lt eqa epb rq eq rp ep le b1 a1 hy hx ea e eb hl h0 ha1 hk; lia)) j1 j2; (clear j2 j1 eqa epb rq eq rp ep le b1 a1 hy hx ea e eb hl h0 ha1 hk; lia)
        refine wpS_bind (wpS_elem ep ?_)
        refine wpS_ite (fun e => ?_) (fun e => ?_)
        · exact wpS_pure ⟨rfl, .inl ⟨_, _, rfl, m2.done (.inr (by simpa using e))⟩⟩
        have e : ¬ ib + 1 = b.size := by simpa using e
        refine wpS_ite (fun _ => ?_) (fun _ => ?_)
        · exact wpS_pure ⟨rfl, .inr ⟨_, _, _, _, _, rfl, m2, a1, by (clear lt eqa epb rq eq rp ep le a1 hy hx ea eb hl h0 ha1 hk; lia), by (clear e lt eqa epb rq eq rp ep a1 hy hx ea eb hl h0 ha1 hk; lia)⟩⟩
        · exact wpS_pure ⟨rfl, _, _, _, _, _, rfl, m2, a1, by (clear lt eqa epb rq eq rp ep le a1 hy hx ea eb hl h0 ha1 hk; lia), by (clear e lt eqa epb rq eq rp ep a1 hy hx ea eb hl h0 ha1 hk; lia)⟩
      · have lt : R rk a ia ≤ R rk b ib := by rw [rp, rq]; simpa using lt
        have m2 : MI rk a b (out.push q) (ia + 1) ib := by
          rw [eqa]
          exact m.pushA (by (clear lt eqa epb rq eq rp ep le b1 hy hx ea e eb hl h0 ha1 hk; lia)) fun j j1 j2 => by have := sb ib j (by (clear j2 j1 lt eqa epb rq eq rp ep le b1 a1 hy hx ea e eb hl h0 ha1 hk; lia)) j1 j2; (clear j2 j1 eqa epb rq eq rp ep le b1 a1 hy hx ea e eb hl h0 ha1 hk; lia)
        refine wpS_bind (wpS_elem eq ?_)
        refine wpS_ite (fun e => ?_) (fun e => ?_)
        · have e : ia + 1 + 1 = a.size := by simpa using e
          exact wpS_pure ⟨rfl, .inl ⟨_, _, rfl, m2.last fun i j _ hi _ hj => mid i j hi (by (clear hi lt eqa epb rq eq rp ep le b1 a1 hy hx ea eb hl h0 ha1 hk; lia))⟩⟩
        have e : ¬ ia + 1 + 1 = a.size := by simpa using e
        refine wpS_ite (fun _ => ?_) (fun _ => ?_)
        · exact wpS_pure ⟨rfl, .inr ⟨_, _, _, _, _, rfl, m2, by (clear lt eqa epb rq eq rp ep le b1 hy hx ea eb hl h0 ha1 hk; lia), b1, by (clear e lt eqa epb rq eq rp ep b1 hy hx ea eb hl h0 ha1 hk; lia)⟩⟩
        · exact wpS_pure ⟨rfl, _, _, _, _, _, rfl, m2, by (clear lt eqa epb rq eq rp ep le b1 hy hx ea eb hl h0 ha1 hk; lia), b1, by (clear e lt eqa epb rq eq rp ep b1 hy hx ea eb hl h0 ha1 hk; lia)⟩
    case post1 =>
      rintro c st2 ⟨rfl, (⟨r, cc, rfl, mr⟩ | ⟨out, ia, ib, ac, bc, rfl, m, a1, b1, le⟩)⟩
      · exact wpS_pure ⟨kp, r, _, rfl, mr⟩
      dsimp only
      refine wpS_bind (wpS_lift (wpAny_rule ⟨rfl, ?_⟩))
      -- by leaps
      refine wpS_bind (wpS_mono (wpS_forRange (I := fun y c st3 => Kpt st st3 ∧ ∃ out ia ib mg ac bc, c = (none, out, ia, ib, mg, ac, bc) ∧ MI rk a b out ia ib ∧ ia + 2 ≤ a.size ∧ ib + 1 ≤ b.size ∧ (a.size - ia) + (b.size - ib) + x + 1 + y ≤ a.size + b.size)
        (Q := fun c st3 => Kpt st st3 ∧ ((∃ r cc, c = (some r, cc) ∧ Mg rk a b r) ∨ ∃ out ia ib mg ac bc, c = (none, out, ia, ib, mg, ac, bc) ∧ MI rk a b out ia ib ∧ ia + 2 ≤ a.size ∧ ib + 1 ≤ b.size ∧ (a.size - ia) + (b.size - ib) + x + 1 ≤ a.size + b.size)) ?step2 ?fin2 ⟨kp, _, _, _, _, _, _, rfl, m, a1, b1, by (clear b1 a1 hx ea e eb hl h0 ha1 hk; lia)⟩) ?post2)
      case fin2 =>
        rintro c st3 ⟨kp3, out, ia, ib, mg, ac, bc, rfl, m, a1, b1, le⟩
        (clear b1 a1 hx ea e eb hl h0 ha1 hk; lia)
      case post2 =>
        rintro c st3 ⟨kp3, (⟨r, cc, rfl, mr⟩ | ⟨out, ia, ib, mg, ac, bc, rfl, m, a1, b1, le⟩)⟩
        · exact wpS_pure ⟨kp3, r, _, rfl, mr⟩
        dsimp only
        refine wpS_bind (wpS_setMG fun st4 k4 => wpS_pure ⟨kp3.trans k4, _, _, _, _, rfl, m, a1, b1, by (clear b1 a1 hx ea e eb hl h0 ha1 hk; lia)⟩)
      case step2 =>
        rintro y c st3 _ hy ⟨kp3, out, ia, ib, mg, ac, bc, rfl, m, a1, b1, le⟩
        dsimp only
        refine wpS_ite (fun _ => ?_) (fun _ => ?_)
        all_goals
          refine wpS_bind (wpS_setMG fun st4 k4 => ?_)
          have kp4 := kp3.trans k4
          obtain ⟨p, ep, mp, rp⟩ := inb ib (by (clear le a1 hy hx ea e eb hl h0 ha1 hk; lia))
          have epb : p = b[ib] := by rw [getElem?_pos b ib (by (clear rp ep le a1 hy hx ea e eb hl h0 ha1 hk; lia))] at ep; exact (Option.some.inj ep).symm
          refine wpS_bind (wpS_elem ep (wpS_bind (wpS_gallop C (kp4.k.trans hk) mp ha (by (clear epb rp ep le b1 hy hx ea e eb hl h0 ha1 hk; lia)) (by (clear epb rp ep le b1 hy hx ea e eb hl h0 ha1 hk; lia)) (fun i j h1 h2 h3 => sa i j (by (clear h3 h2 h1 epb rp ep le b1 a1 hy hx ea e eb hl h0 ha1 hk; lia)) h2 (by (clear h2 h1 epb rp ep le b1 hy hx ea e eb hl h0 ha1 hk; lia))) fun k k1 k2 k3 => ?_)))
          dsimp only
          have mA : MI rk a b (out ++ a.extract ia (ia + k)) (ia + k) ib := m.chunkA (k := k) fun i hi hs j j1 j2 => by
            have e1 := By_f (k2 i hi)
            have e2 := sb ib j (by (clear e1 j2 j1 hs hi k1 epb rp ep le b1 a1 hy hx ea e eb hl h0 ha1 hk; lia)) j1 j2
            rw [rp] at e2
            (clear j2 j1 hs hi k1 epb rp ep le b1 a1 hy hx ea e eb hl h0 ha1 hk; lia)
          have nxt : ∀ j, ia + k ≤ j → j < a.size → R rk b ib ≤ R rk a j := fun j j1 j2 => by
            have := By_f' (k3 (j - ia) (by (clear j2 k1 epb rp ep le b1 a1 hy hx ea e eb hl h0 ha1 hk; lia)) (by (clear j1 k1 epb rp ep le b1 hy hx ea e eb hl h0 ha1 hk; lia)))
            rw [show ia + (j - ia) = j by (clear this j2 k1 epb rp ep le b1 a1 hy hx ea e eb hl h0 ha1 hk; lia)] at this
            rw [rp]; (clear j2 j1 k1 epb rp ep le b1 a1 hy hx ea e eb hl h0 ha1 hk; lia)
          apply wpS_ite
          case' h1 =>
            intro kpos
            refine wpS_ite (fun e => ?_) (fun e => ?_)
            · have e : ia + k + 1 = a.size := by simpa using e
              exact wpS_pure ⟨kp4, .inl ⟨_, _, rfl, mA.last fun i j _ hi _ hj => mid i j hi (by (clear hi kpos k1 epb rp ep le b1 a1 hy hx ea eb hl h0 ha1 hk; lia))⟩⟩
            have e1 : ¬ ia + k + 1 = a.size := by simpa using e
            refine wpS_ite (fun e => ?_) (fun e => ?_)
            · exact wpS_pure ⟨kp4, .inl ⟨_, _, rfl, mA.done (.inl (by simpa using e))⟩⟩
            have e2 : ¬ ia + k = a.size := by simpa using e
            have a3 : ia + k + 2 ≤ a.size := by (clear e kpos epb rp ep le b1 hy hx ea eb hl h0 ha1 hk; lia)
            have le3 : (a.size - (ia + k)) + (b.size - ib) + x + 1 + y ≤ a.size + b.size := by (clear a3 e2 e e1 kpos k1 epb rp ep b1 a1 hy hx ea eb hl h0 ha1 hk; lia)
            generalize out ++ a.extract ia (ia + k) = out3 at mA ⊢
            generalize ia + k = ia3 at mA nxt a3 le3 ⊢
          case' h2 =>
            intro kpos
            have k0 : k = 0 := by (clear k1 epb rp ep le b1 a1 hy hx ea e eb hl h0 ha1 hk; lia)
            have a3 : ia + 2 ≤ a.size := by (clear k0 kpos k1 epb rp ep le b1 hy hx ea e eb hl h0 ha1 hk; lia)
            have le3 : (a.size - ia) + (b.size - ib) + x + 1 + y ≤ a.size + b.size := by (clear a3 k0 kpos k1 epb rp ep b1 a1 hy hx ea e eb hl h0 ha1 hk; lia)
            subst k0
            replace nxt : ∀ j, ia ≤ j → j < a.size → R rk b ib ≤ R rk a j := nxt
            replace mA := m
          all_goals
            have mB := mA.pushB (by (clear kpos k1 le3 a3 epb rp ep le a1 hy hx ea e eb hl h0 ha1 hk; lia)) nxt
            rw [← epb] at mB
            refine wpS_bind (wpS_elem ep ?_)
            refine wpS_ite (fun e => ?_) (fun e => ?_)
            · exact wpS_pure ⟨kp4, .inl ⟨_, _, rfl, mB.done (.inr (by simpa using e))⟩⟩
            have e3 : ¬ ib + 1 = b.size := by simpa using e
            obtain ⟨q, eq, mq, rq⟩ := ina _ (show _ < a.size from Nat.lt_of_lt_of_le (Nat.lt_succ_of_lt (Nat.lt_succ_self _)) a3)
            refine wpS_bind (wpS_elem eq (wpS_bind (wpS_gallop C (kp4.k.trans hk) mq hb (by (clear rq eq e3 e kpos k1 le3 a3 epb rp ep le a1 hy hx ea eb hl h0 ha1 hk; lia)) (by (clear rq eq e kpos k1 le3 a3 epb rp ep le a1 hy hx ea eb hl h0 ha1 hk; lia)) (fun i j h1 h2 h3 => sb i j (by (clear h3 h2 h1 rq eq e3 e kpos k1 le3 a3 epb rp ep le b1 a1 hy hx ea eb hl h0 ha1 hk; lia)) h2 (by (clear h2 h1 rq eq e3 e kpos k1 le3 a3 epb rp ep le a1 hy hx ea eb hl h0 ha1 hk; lia))) fun k' l1 l2 l3 => ?_)))
            dsimp only
            have mC := mB.chunkB (k := k') fun i hi hs j j1 j2 => by
              have e1 := By_t (l2 i hi)
              have e2 := sa _ j (by (clear e1 j2 j1 hs hi l1 rq eq e3 e kpos k1 le3 a3 epb rp ep le b1 a1 hy hx ea eb hl h0 ha1 hk; lia)) j1 j2
              rw [rq] at e2
              (clear j2 j1 hs hi l1 rq eq e3 e kpos k1 le3 a3 epb rp ep le b1 a1 hy hx ea eb hl h0 ha1 hk; lia)
            apply wpS_ite
            case' h1 =>
              intro kpos
              refine wpS_ite (fun e => ?_) (fun e => ?_)
              · exact wpS_pure ⟨kp4, .inl ⟨_, _, rfl, mC.done (.inr (by simpa using e))⟩⟩
              have e5 : ¬ ib + 1 + k' = b.size := by simpa using e
              have nx : ∀ j, ib + 1 + k' ≤ j → j < b.size → rk q.1 ≤ R rk b j := fun j j1 j2 => by
                have := By_t' (l3 (j - (ib + 1)) (by (clear j2 e5 e kpos l1 rq eq e3 k1 le3 a3 epb rp ep le b1 a1 hy hx ea eb hl h0 ha1 hk; lia)) (by (clear j1 e5 e kpos l1 rq eq k1 le3 a3 epb rp ep le a1 hy hx ea eb hl h0 ha1 hk; lia)))
                rw [show ib + 1 + (j - (ib + 1)) = j by (clear this j2 e5 e kpos l1 rq eq e3 k1 le3 a3 epb rp ep le b1 a1 hy hx ea eb hl h0 ha1 hk; lia)] at this
                (clear j2 j1 e5 e kpos l1 rq eq e3 k1 le3 a3 epb rp ep le b1 a1 hy hx ea eb hl h0 ha1 hk; lia)
              have b3 : ib + 1 + k' + 1 ≤ b.size := by (clear e kpos rq eq e3 k1 le3 a3 epb rp ep le a1 hy hx ea eb hl h0 ha1 hk; lia)
            case' h2 =>
              intro kpos
              have k0 : k' = 0 := by (clear l1 rq eq e3 e k1 le3 a3 epb rp ep le b1 a1 hy hx ea eb hl h0 ha1 hk; lia)
              have nx : ∀ j, ib + 1 ≤ j → j < b.size → rk q.1 ≤ R rk b j := fun j j1 j2 => by
                have := By_t' (l3 (j - (ib + 1)) (by (clear j2 j1 k0 l1 rq eq e3 e k1 le3 a3 epb rp ep le b1 a1 hy hx ea eb hl h0 ha1 hk; lia)) (by (clear j1 k0 kpos l1 rq eq e k1 le3 a3 epb rp ep le a1 hy hx ea eb hl h0 ha1 hk; lia)))
                rw [show ib + 1 + (j - (ib + 1)) = j by (clear this j2 k0 kpos l1 rq eq e3 e k1 le3 a3 epb rp ep le b1 a1 hy hx ea eb hl h0 ha1 hk; lia)] at this
                (clear j2 j1 k0 kpos l1 rq eq e3 e k1 le3 a3 epb rp ep le b1 a1 hy hx ea eb hl h0 ha1 hk; lia)
              have b3 : ib + 1 + 1 ≤ b.size := by (clear k0 kpos l1 rq eq e k1 le3 a3 epb rp ep le a1 hy hx ea eb hl h0 ha1 hk; lia)
              replace mC := mB
            all_goals
              have mD := mC.pushA (by (clear b3 kpos l1 rq eq e3 e k1 le3 epb rp ep le b1 hy hx ea eb hl h0 ha1 hk; lia)) (fun j j1 j2 => by rw [rq]; exact nx j j1 j2)
              have eqa := Option.some.inj ((getElem?_pos a _ (by (clear b3 kpos l1 rq eq e3 e k1 le3 epb rp ep le b1 hy hx ea eb hl h0 ha1 hk; lia))).symm.trans eq)
              rw [eqa] at mD
              refine wpS_bind (wpS_elem eq ?_)
              refine wpS_ite (fun e => ?_) (fun e => ?_)
              · exact wpS_pure ⟨kp4, .inl ⟨_, _, rfl, mD.last fun i j _ hi _ hj => mid i j hi (by have e := eq_of_beq e; (clear hi eqa b3 kpos l1 rq eq e3 k1 le3 a3 epb rp ep le b1 a1 hy hx ea eb hl h0 ha1 hk; lia))⟩⟩
              have e6 : ¬ _ = a.size := fun z => e (beq_iff_eq.mpr z)
              refine wpS_ite (fun _ => ?_) (fun _ => ?_)
              · exact wpS_pure ⟨kp4, .inr ⟨_, _, _, _, _, _, rfl, mD, by (clear e eqa b3 kpos l1 rq eq e3 k1 le3 epb rp ep le b1 hy hx ea eb hl h0 ha1 hk; lia), by (clear e6 e eqa b3 kpos rq eq k1 le3 a3 epb rp ep le a1 hy hx ea eb hl h0 ha1 hk; lia), by (clear e6 e eqa b3 kpos l1 rq eq e3 k1 a3 epb rp ep b1 a1 hy hx ea eb hl h0 ha1 hk; lia)⟩⟩
              · exact wpS_pure ⟨kp4, _, _, _, _, _, _, rfl, mD, by (clear e eqa b3 kpos l1 rq eq e3 k1 le3 epb rp ep le b1 hy hx ea eb hl h0 ha1 hk; lia), by (clear e6 e eqa b3 kpos rq eq k1 le3 a3 epb rp ep le a1 hy hx ea eb hl h0 ha1 hk; lia), by (clear e6 e eqa b3 kpos l1 rq eq e3 k1 a3 epb rp ep hy hx ea eb hl h0 ha1 hk; lia)⟩
end
end Tim
set_option Elab.async false
set_option linter.all false
set_option maxRecDepth 100000
set_option maxHeartbeats 4000000
namespace Tim
open PySem PyProof.Rows
abbrev hiDone (a b out : Array Keyed) (na nb : Nat) : Array Keyed := a.extract 0 na ++ b.extract 0 nb ++ out.reverse
abbrev hiFirst (a b out : Array Keyed) (na nb : Nat) : Array Keyed := b.extract 0 nb ++ a.extract 0 na ++ out.reverse
theorem mergeHi'_eq (a b : Array Keyed) : mergeHi' a b = (do
  rule "list.sort.merge-hi"
  let total := a.size + b.size
  let mut na := a.size - 1
  let mut nb := b.size
  let mut out : Array Keyed := #[← elem' a na]
  if na == 0 then return hiDone a b out na nb
  if nb == 1 then return hiFirst a b out na nb
  let mut minGallop := gallopOf (← get)
  for _ in [0:total] do
    let mut acount := 0
    let mut bcount := 0
    for _ in [0:total] do
      let some aWins ← lt' (← elem' b (nb - 1)) (← elem' a (na - 1)) | return hiDone a b out na nb
      if aWins then
        na := na - 1; out := out.push (← elem' a na); acount := acount + 1; bcount := 0
        if na == 0 then return hiDone a b out na nb
        if acount ≥ minGallop then break
      else
        nb := nb - 1; out := out.push (← elem' b nb); bcount := bcount + 1; acount := 0
        if nb == 1 then return hiFirst a b out na nb
        if bcount ≥ minGallop then break
    rule "list.sort.gallop"
    minGallop := minGallop + 1
    for _ in [0:total] do
      if minGallop > 1 then minGallop := minGallop - 1
      setMinGallop' minGallop
      let some at_ ← gallop' false (← elem' b (nb - 1)) a 0 na (na - 1) | return hiDone a b out na nb
      let k := na - at_
      acount := k
      if k > 0 then
        out := out ++ (a.extract at_ na).reverse; na := at_
        if na == 0 then return hiDone a b out na nb
      nb := nb - 1; out := out.push (← elem' b nb)
      if nb == 1 then return hiFirst a b out na nb
      let some at_ ← gallop' true (← elem' a (na - 1)) b 0 nb (nb - 1) | return hiDone a b out na nb
      let k := nb - at_
      bcount := k
      if k > 0 then
        out := out ++ (b.extract at_ nb).reverse; nb := at_
        if nb == 1 then return hiFirst a b out na nb
        if nb == 0 then return hiDone a b out na nb
      na := na - 1; out := out.push (← elem' a na)
      if na == 0 then return hiDone a b out na nb
      if acount < 7 && bcount < 7 then break
    minGallop := minGallop + 1
    setMinGallop' minGallop
  unsupported "internal:list.sort.merge-bound") := rfl
section
variable {rk : Value → Nat} {a b out : Array Keyed} {na nb k : Nat}
structure MH (rk : Value → Nat) (a b out : Array Keyed) (na nb : Nat) : Prop where
  perm : (a.toList.take na ++ (b.toList.take nb ++ out.toList.reverse)).Perm (a.toList ++ b.toList)
  sa : Srt rk (a.toList.take na ++ out.toList.reverse)
  sb : Srt rk (b.toList.take nb ++ out.toList.reverse)
theorem take_split (l : List Keyed) {i j : Nat} (h : i ≤ j) : l.take j = l.take i ++ (l.drop i).take (j - i) := by
  rw [List.take_drop, show i + (j - i) = j by lia]
  have := (List.take_append_drop i (l.take j)).symm
  rwa [List.take_take, Nat.min_eq_left h] at this
theorem mem_take' {a : Array Keyed} {x : Keyed} (h : x ∈ a.toList.take na) : ∃ j, j < na ∧ j < a.size ∧ R rk a j = rk x.1 := by
  have h' : x ∈ (a.toList.drop 0).take na := by rw [List.drop_zero]; exact h
  obtain ⟨j, j1, j2, j3⟩ := mem_take_drop (rk := rk) h'
  rw [Nat.zero_add] at j2 j3
  exact ⟨j, j1, j2, j3⟩
theorem MH.chunkA (m : MH rk a b out na nb) {at_ : Nat} (hat : at_ ≤ na) (hle : ∀ i, at_ ≤ i → i < na → i < a.size → ∀ j, j < nb → j < b.size → R rk b j ≤ R rk a i) : MH rk a b (out ++ (a.extract at_ na).reverse) at_ nb := by
  have e : (out ++ (a.extract at_ na).reverse).toList.reverse = (a.toList.drop at_).take (na - at_) ++ out.toList.reverse := by
    rw [Array.toList_append, List.reverse_append, Array.toList_reverse, List.reverse_reverse, ext_list]
  have sp := take_split a.toList hat
  refine ⟨?_, ?_, ?_⟩
  · rw [e]
    refine List.Perm.trans ?_ m.perm
    rw [sp, List.append_assoc]
    refine List.Perm.append_left _ ?_
    rw [← List.append_assoc, ← List.append_assoc]
    exact List.Perm.append_right _ List.perm_append_comm
  · rw [e, ← List.append_assoc, ← sp]
    exact m.sa
  · rw [e]
    have h1 := m.sa
    rw [sp, List.append_assoc] at h1
    have h2 := srt_app.mp (srt_app.mp h1).2.1
    have h3 := srt_app.mp m.sb
    refine srt_app.mpr ⟨h3.1, srt_app.mpr ⟨h2.1, h3.2.1, h2.2.2⟩, fun p hp q hq => ?_⟩
    rcases List.mem_append.mp hq with hq | hq
    · obtain ⟨i, i1, i2, i3⟩ := mem_take' (rk := rk) hp
      obtain ⟨j, j1, j2, j3⟩ := mem_take_drop (rk := rk) hq
      rw [← i3, ← j3]
      exact hle _ (by (clear j3 j2 j1 i3 i2 i1 h3 h2 sp e hat; lia)) (by (clear j3 j2 i3 i2 i1 h3 h2 sp e hat; lia)) j2 i i1 i2
    · exact h3.2.2 p hp q hq
theorem MH.swap (m : MH rk a b out na nb) : MH rk b a out nb na := by
  refine ⟨?_, m.sb, m.sa⟩
  refine List.Perm.trans ?_ (m.perm.trans List.perm_append_comm)
  rw [← List.append_assoc, ← List.append_assoc]
  exact List.Perm.append_right _ List.perm_append_comm
theorem MH.chunkB (m : MH rk a b out na nb) {at_ : Nat} (hat : at_ ≤ nb) (hle : ∀ i, at_ ≤ i → i < nb → i < b.size → ∀ j, j < na → j < a.size → R rk a j ≤ R rk b i) : MH rk a b (out ++ (b.extract at_ nb).reverse) na at_ := (m.swap.chunkA hat hle).swap
theorem push_rev (h1 : 1 ≤ na) (h : na ≤ a.size) : out.push (a[na - 1]'(by lia)) = out ++ (a.extract (na - 1) na).reverse := by
  have e := push_ext (out := #[]) (b := a) (ib := na - 1) (by lia)
  rw [show na - 1 + 1 = na by (clear e h; lia)] at e
  have e2 : a.extract (na - 1) na = #[a[na - 1]'(by (clear e; lia))] := by
    apply Array.toList_inj.mp
    have := congrArg Array.toList e
    rw [Array.toList_append] at this
    simpa using this.symm
  rw [e2]
  apply Array.toList_inj.mp
  simp
theorem MH.pushA (m : MH rk a b out na nb) (h1 : 1 ≤ na) (h : na ≤ a.size) (hle : ∀ j, j < nb → j < b.size → R rk b j ≤ R rk a (na - 1)) : MH rk a b (out.push (a[na - 1]'(by lia))) (na - 1) nb := by
  rw [push_rev h1 h]
  refine m.chunkA (by (clear h h1; lia)) fun i i1 i2 i3 j j1 j2 => ?_
  have : i = na - 1 := by (clear j2 j1 i3 h h1; lia)
  subst this
  exact hle j j1 j2
theorem MH.pushB (m : MH rk a b out na nb) (h1 : 1 ≤ nb) (h : nb ≤ b.size) (hle : ∀ j, j < na → j < a.size → R rk a j ≤ R rk b (nb - 1)) : MH rk a b (out.push (b[nb - 1]'(by lia))) na (nb - 1) := (m.swap.pushA h1 h hle).swap
theorem hi_list : (hiDone a b out na nb).toList = a.toList.take na ++ (b.toList.take nb ++ out.toList.reverse) := by
  unfold hiDone
  rw [Array.toList_append, Array.toList_append, ext_list, ext_list, Array.toList_reverse, List.append_assoc]
  rfl
theorem MH.done (m : MH rk a b out na nb) (h : na = 0 ∨ nb = 0) : Mg rk a b (hiDone a b out na nb) := by
  refine ⟨by rw [hi_list]; exact m.perm, ?_⟩
  rw [hi_list]
  rcases h with h | h
  · subst h
    exact m.sb
  · subst h
    exact m.sa
theorem MH.first (m : MH rk a b out na nb) (h : ∀ i j, i < nb → i < b.size → j < na → j < a.size → R rk b i ≤ R rk a j) : Mg rk a b (hiFirst a b out na nb) := by
  have m2 := m.chunkA (at_ := 0) (by lia) fun i _ i2 i3 j j1 j2 => h j i j1 j2 i2 i3
  have e : hiFirst a b out na nb = hiDone a b (out ++ (a.extract 0 na).reverse) 0 nb := by
    apply Array.toList_inj.mp
    rw [hi_list, hi_list, Array.toList_append, List.reverse_append, Array.toList_reverse, List.reverse_reverse, ext_list]
    simp
  rw [e]
  exact m2.done (.inl rfl)
end
section
variable {prog : Program} {w : World} {A : Around} {E : Value → Shared → Prop} {s : Shared} {κ : SortKind} {a₀ : Array Keyed} {rk : Value → Nat}
theorem wpS_mergeHi {st : SortSt} {a b : Array Keyed} {Q : Array Keyed → SortSt → Prop} (C : Cmp prog w A s κ a₀ rk) (hk : kindOf st = κ) (ha : ∀ p ∈ a.toList, p ∈ a₀.toList) (hb : ∀ p ∈ b.toList, p ∈ a₀.toList)
    (ha1 : 1 ≤ a.size) (hb1 : 1 ≤ b.size) (sa : Seg rk a 0 a.size) (sb : Seg rk b 0 b.size) (h0 : R rk b 0 ≤ R rk a 0) (hl : R rk b (b.size - 1) ≤ R rk a (a.size - 1))
    (h : ∀ r st', Kpt st st' → Mg rk a b r → Q r st') : wpS (model prog w) A E s (mergeHi' a b) Q st := by
  have inb : ∀ i, i < b.size → ∃ p, b[i]? = some p ∧ p ∈ a₀.toList ∧ R rk b i = rk p.1 := fun i hi => ⟨b[i], getElem?_pos b i hi, hb _ (by simp), R_get hi⟩
  have ina : ∀ i, i < a.size → ∃ p, a[i]? = some p ∧ p ∈ a₀.toList ∧ R rk a i = rk p.1 := fun i hi => ⟨a[i], getElem?_pos a i hi, ha _ (by simp), R_get hi⟩
  have mid : ∀ i j nb, i < nb → nb = 1 → j < a.size → R rk b i ≤ R rk a j := fun i j nb hi hn hj => by
    have := sa 0 j (by (clear hj hn hi hl h0 hb1 ha1 hk; lia)) (by (clear hj hn hi hl h0 hb1 ha1 hk; lia)) hj
    have e : i = 0 := by (clear this hj hl h0 hb1 ha1 hk; lia)
    subst e
    (clear hi hj hn hl hb1 ha1 hk; lia)
  have m0 : MH rk a b #[a[a.size - 1]] (a.size - 1) b.size := by
    have m : MH rk a b #[] a.size b.size := by
      refine ⟨?_, ?_, ?_⟩
      · rw [← Array.length_toList, ← Array.length_toList, List.take_length, List.take_length]; simp
      · rw [← Array.length_toList, List.take_length]
        show Srt rk (a.toList ++ [])
        rw [List.append_nil]
        refine List.pairwise_iff_getElem.mpr fun i j hi hj hij => ?_
        rw [Array.length_toList] at hi hj
        have := sa i j (by (clear hij hj hi hl h0 hb1 ha1 hk; lia)) (by (clear hj hi hl h0 hb1 ha1 hk; lia)) hj
        rw [R_get hi, R_get hj] at this
        simpa [Le] using this
      · rw [← Array.length_toList, List.take_length]
        show Srt rk (b.toList ++ [])
        rw [List.append_nil]
        refine List.pairwise_iff_getElem.mpr fun i j hi hj hij => ?_
        rw [Array.length_toList] at hi hj
        have := sb i j (by (clear hij hj hi hl h0 hb1 ha1 hk; lia)) (by (clear hj hi hl h0 hb1 ha1 hk; lia)) hj
        rw [R_get hi, R_get hj] at this
        simpa [Le] using this
    exact m.pushA ha1 (Nat.le_refl _) fun j j1 j2 => Nat.le_trans (sb j (b.size - 1) (by (clear j2 j1 hl h0 hb1 ha1 hk; lia)) (by (clear j2 hl h0 hb1 ha1 hk; lia)) (by (clear j2 j1 hl h0 ha1 hk; lia))) hl
  rw [mergeHi'_eq]
  refine wpS_bind (wpS_lift (wpAny_rule ⟨rfl, ?_⟩))
  refine wpS_bind (wpS_elem (p := a[a.size - 1]) (getElem?_pos a _ (by (clear hl h0 hb1 hk; lia))) ?_)
  dsimp only
  refine wpS_ite (fun e => ?_) (fun e => ?_)
  · exact wpS_pure (h _ _ (.refl _) (m0.done (.inl (by simpa using e))))
  have ea : ¬ a.size - 1 = 0 := fun z => e (beq_iff_eq.mpr z)
  refine wpS_ite (fun e => ?_) (fun e => ?_)
  · exact wpS_pure (h _ _ (.refl _) (m0.first fun i j i1 i2 j1 j2 => mid i j _ i1 (by simpa using e) j2))
  have eb : ¬ b.size = 1 := by simpa using e
  refine wpS_bind (wpS_get ?_)
  refine wpS_bind (wpS_mono (wpS_forRange (I := fun x c st' => Kpt st st' ∧ ∃ na nb out mg, c = (none, na, nb, out, mg) ∧ MH rk a b out na nb ∧ 1 ≤ na ∧ 2 ≤ nb ∧ na ≤ a.size ∧ nb ≤ b.size ∧ na + nb + x ≤ a.size + b.size)
      (Q := fun c st' => Kpt st st' ∧ ∃ r cc, c = (some r, cc) ∧ Mg rk a b r) ?step ?fin ⟨.refl _, _, _, _, _, rfl, m0, by (clear eb e hl h0 hb1 hk; lia), by (clear e ea hl h0 hk; lia), by (clear eb e ea hl h0 hb1 hk; lia), by (clear eb e ea hl h0 hb1 hk; lia), by (clear eb e ea hl h0 hb1 hk; lia)⟩) ?post)
  case post =>
    rintro c st' ⟨kp, r, cc, rfl, m⟩
    exact wpS_pure (h _ _ kp m)
  case fin =>
    rintro c st' ⟨kp, na, nb, out, mg, rfl, m, a1, b1, a2, b2, le⟩
    (clear b2 a2 b1 eb e ea hl h0 hb1 hk; lia)
  case step =>
    rintro x c st' _ hx ⟨kp, na, nb, out, mg, rfl, m, a1, b1, a2, b2, le⟩
    dsimp only
    refine wpS_bind (wpS_mono (wpS_forRange (I := fun y c st2 => st2 = st' ∧ ∃ na nb out ac bc, c = (none, na, nb, out, ac, bc) ∧ MH rk a b out na nb ∧ 1 ≤ na ∧ 2 ≤ nb ∧ na ≤ a.size ∧ nb ≤ b.size ∧ na + nb + x + y ≤ a.size + b.size)
      (Q := fun c st2 => st2 = st' ∧ ((∃ r cc, c = (some r, cc) ∧ Mg rk a b r) ∨ ∃ na nb out ac bc, c = (none, na, nb, out, ac, bc) ∧ MH rk a b out na nb ∧ 1 ≤ na ∧ 2 ≤ nb ∧ na ≤ a.size ∧ nb ≤ b.size ∧ na + nb + x + 1 ≤ a.size + b.size)) ?step1 ?fin1 ⟨rfl, _, _, _, _, _, rfl, m, a1, b1, a2, b2, by (clear b2 a2 b1 a1 hx eb e ea hl h0 hb1 hk; lia)⟩) ?post1)
    case fin1 =>
      rintro c st2 ⟨rfl, na, nb, out, ac, bc, rfl, m, a1, b1, a2, b2, le⟩
      (clear b2 a2 b1 hx eb e ea hl h0 hb1 hk; lia)
    case step1 =>
      rintro y c st2 _ hy ⟨rfl, na, nb, out, ac, bc, rfl, m, a1, b1, a2, b2, le⟩
      dsimp only
      obtain ⟨p, ep, mp, rp⟩ := inb (nb - 1) (by (clear le a2 b1 a1 hy hx eb e ea hl h0 hb1 hk; lia))
      obtain ⟨q, eq, mq, rq⟩ := ina (na - 1) (by (clear rp ep le b2 b1 a1 hy hx eb e ea hl h0 hb1 hk; lia))
      refine wpS_bind (wpS_elem ep (wpS_bind (wpS_elem eq (wpS_bind (wpS_lt C (kp.k.trans hk) mp mq ?_)))))
      dsimp only
      have epb : b[nb - 1] = p := Option.some.inj ((getElem?_pos b _ (by (clear rq eq rp ep le a2 b1 a1 hy hx eb e ea hl h0 hb1 hk; lia))).symm.trans ep)
      have eqa : a[na - 1] = q := Option.some.inj ((getElem?_pos a _ (by (clear epb rq eq rp ep le b2 b1 a1 hy hx eb e ea hl h0 hb1 hk; lia))).symm.trans eq)
      refine wpS_ite (fun lt => ?_) (fun lt => ?_)
      · have lt : R rk b (nb - 1) < R rk a (na - 1) := by rw [rp, rq]; simpa using lt
        have m2 := m.pushA a1 a2 fun j j1 j2 => by have := sb j (nb - 1) (by (clear j2 j1 lt eqa epb rq eq rp ep le b2 a2 b1 a1 hy hx eb e ea hl h0 hb1 hk; lia)) (by (clear j2 lt eqa epb rq eq rp ep le b2 a2 b1 a1 hy hx eb e ea hl h0 hb1 hk; lia)) (by (clear j2 j1 lt eqa epb rq eq rp ep le a2 b1 a1 hy hx eb e ea hl h0 hb1 hk; lia)); (clear j2 j1 eqa epb rq eq rp ep le b2 a2 b1 a1 hy hx eb e ea hl h0 hb1 hk; lia)
        rw [eqa] at m2
        refine wpS_bind (wpS_elem eq ?_)
        refine wpS_ite (fun e => ?_) (fun e => ?_)
        · exact wpS_pure ⟨rfl, .inl ⟨_, _, rfl, m2.done (.inl (by simpa using e))⟩⟩
        have e : ¬ na - 1 = 0 := fun z => e (beq_iff_eq.mpr z)
        refine wpS_ite (fun _ => ?_) (fun _ => ?_)
        · exact wpS_pure ⟨rfl, .inr ⟨_, _, _, _, _, rfl, m2, by (clear lt eqa epb rq eq rp ep le b2 a2 b1 a1 hy hx eb ea hl h0 hb1 hk; lia), b1, by (clear e lt eqa epb rq eq rp ep le b2 b1 a1 hy hx eb ea hl h0 hb1 hk; lia), b2, by (clear e lt eqa epb rq eq rp ep b2 a2 b1 hy hx eb ea hl h0 hb1 hk; lia)⟩⟩
        · exact wpS_pure ⟨rfl, _, _, _, _, _, rfl, m2, by (clear lt eqa epb rq eq rp ep le b2 a2 b1 a1 hy hx eb ea hl h0 hb1 hk; lia), b1, by (clear e lt eqa epb rq eq rp ep le b2 b1 a1 hy hx eb ea hl h0 hb1 hk; lia), b2, by (clear e lt eqa epb rq eq rp ep b2 a2 b1 hy hx eb ea hl h0 hb1 hk; lia)⟩
      · have lt : R rk a (na - 1) ≤ R rk b (nb - 1) := by rw [rp, rq]; simpa using lt
        have m2 := m.pushB (by (clear lt eqa epb rq eq rp ep le b2 a2 a1 hy hx eb e ea hl h0 hb1 hk; lia)) b2 fun j j1 j2 => by have := sa j (na - 1) (by (clear j2 j1 lt eqa epb rq eq rp ep le b2 a2 b1 a1 hy hx eb e ea hl h0 hb1 hk; lia)) (by (clear j2 lt eqa epb rq eq rp ep le b2 a2 b1 a1 hy hx eb e ea hl h0 hb1 hk; lia)) (by (clear j2 j1 lt eqa epb rq eq rp ep le b2 b1 a1 hy hx eb e ea hl h0 hb1 hk; lia)); (clear j2 j1 eqa epb rq eq rp ep le b2 a2 b1 a1 hy hx eb e ea hl h0 hb1 hk; lia)
        rw [epb] at m2
        refine wpS_bind (wpS_elem ep ?_)
        refine wpS_ite (fun e => ?_) (fun e => ?_)
        · exact wpS_pure ⟨rfl, .inl ⟨_, _, rfl, m2.first fun i j i1 i2 j1 j2 => mid i j _ i1 (eq_of_beq e) j2⟩⟩
        have e : ¬ nb - 1 = 1 := fun z => e (beq_iff_eq.mpr z)
        refine wpS_ite (fun _ => ?_) (fun _ => ?_)
        · exact wpS_pure ⟨rfl, .inr ⟨_, _, _, _, _, rfl, m2, a1, by (clear lt eqa epb rq eq rp ep le b2 a2 a1 hy hx eb ea hl h0 hb1 hk; lia), a2, by (clear e lt eqa epb rq eq rp ep le a2 b1 a1 hy hx eb ea hl h0 hb1 hk; lia), by (clear e lt eqa epb rq eq rp ep b2 a2 a1 hy hx eb ea hl h0 hb1 hk; lia)⟩⟩
        · exact wpS_pure ⟨rfl, _, _, _, _, _, rfl, m2, a1, by (clear lt eqa epb rq eq rp ep le b2 a2 a1 hy hx eb ea hl h0 hb1 hk; lia), a2, by (clear e lt eqa epb rq eq rp ep le a2 b1 a1 hy hx eb ea hl h0 hb1 hk; lia), by (clear e lt eqa epb rq eq rp ep b2 a2 a1 hy hx eb ea hl h0 hb1 hk; lia)⟩
    case post1 =>
      rintro c st2 ⟨rfl, (⟨r, cc, rfl, mr⟩ | ⟨na, nb, out, ac, bc, rfl, m, a1, b1, a2, b2, le⟩)⟩
      · exact wpS_pure ⟨kp, r, _, rfl, mr⟩
      dsimp only
      refine wpS_bind (wpS_lift (wpAny_rule ⟨rfl, ?_⟩))
      refine wpS_bind (wpS_mono (wpS_forRange (I := fun y c st3 => Kpt st st3 ∧ ∃ na nb out mg ac bc, c = (none, na, nb, out, mg, ac, bc) ∧ MH rk a b out na nb ∧ 1 ≤ na ∧ 2 ≤ nb ∧ na ≤ a.size ∧ nb ≤ b.size ∧ na + nb + x + 1 + y ≤ a.size + b.size)
        (Q := fun c st3 => Kpt st st3 ∧ ((∃ r cc, c = (some r, cc) ∧ Mg rk a b r) ∨ ∃ na nb out mg ac bc, c = (none, na, nb, out, mg, ac, bc) ∧ MH rk a b out na nb ∧ 1 ≤ na ∧ 2 ≤ nb ∧ na ≤ a.size ∧ nb ≤ b.size ∧ na + nb + x + 1 ≤ a.size + b.size)) ?step2 ?fin2 ⟨kp, _, _, _, _, _, _, rfl, m, a1, b1, a2, b2, by (clear b2 a2 b1 a1 hx eb e ea hl h0 hb1 hk; lia)⟩) ?post2)
      case fin2 =>
        rintro c st3 ⟨kp3, na, nb, out, mg, ac, bc, rfl, m, a1, b1, a2, b2, le⟩
        (clear b2 a2 b1 a1 hx eb e ea hl h0 hb1 hk; lia)
      case post2 =>
        rintro c st3 ⟨kp3, (⟨r, cc, rfl, mr⟩ | ⟨na, nb, out, mg, ac, bc, rfl, m, a1, b1, a2, b2, le⟩)⟩
        · exact wpS_pure ⟨kp3, r, _, rfl, mr⟩
        dsimp only
        refine wpS_bind (wpS_setMG fun st4 k4 => wpS_pure ⟨kp3.trans k4, _, _, _, _, rfl, m, a1, b1, a2, b2, by (clear b2 a2 b1 a1 hx eb e ea hl h0 hb1 hk; lia)⟩)
      case step2 =>
        rintro y c st3 _ hy ⟨kp3, na, nb, out, mg, ac, bc, rfl, m, a1, b1, a2, b2, le⟩
        dsimp only
        refine wpS_ite (fun _ => ?_) (fun _ => ?_)
        all_goals
          refine wpS_bind (wpS_setMG fun st4 k4 => ?_)
          have kp4 := kp3.trans k4
          obtain ⟨p, ep, mp, rp⟩ := inb (nb - 1) (by (clear le a2 b1 a1 hy hx eb e ea hl h0 hb1 hk; lia))
          have epb : b[nb - 1] = p := Option.some.inj ((getElem?_pos b _ (by (clear rp ep le a2 b1 a1 hy hx eb e ea hl h0 hb1 hk; lia))).symm.trans ep)
          refine wpS_bind (wpS_elem ep (wpS_bind (wpS_gallop C (kp4.k.trans hk) mp ha (by (clear epb rp ep le b2 b1 a1 hy hx eb e ea hl h0 hb1 hk; lia)) (by (clear epb rp ep le b2 a2 b1 hy hx eb e ea hl h0 hb1 hk; lia)) (fun i j h1 h2 h3 => sa i j (by (clear h3 h2 h1 epb rp ep le b2 a2 b1 a1 hy hx eb e ea hl h0 hb1 hk; lia)) h2 (by (clear h2 h1 epb rp ep le b2 b1 a1 hy hx eb e ea hl h0 hb1 hk; lia))) fun k k1 k2 k3 => ?_)))
          dsimp only
          simp only [Nat.zero_add] at k2 k3
          have mA := m.chunkA k1 fun i i1 i2 i3 j j1 j2 => by
            have e1 := By_f' (k3 i i1 i2)
            have e2 := sb j (nb - 1) (by (clear e1 j2 j1 i3 i2 i1 k1 epb rp ep le b2 a2 b1 a1 hy hx eb e ea hl h0 hb1 hk; lia)) (by (clear e1 j2 i3 i2 i1 k1 epb rp ep le b2 a2 b1 a1 hy hx eb e ea hl h0 hb1 hk; lia)) (by (clear e1 j2 j1 i3 i2 i1 k1 epb rp ep le a2 b1 a1 hy hx eb e ea hl h0 hb1 hk; lia))
            (clear j2 j1 i3 i2 i1 k1 epb ep le b2 a2 b1 a1 hy hx eb e ea hl h0 hb1 hk; lia)
          have nxt : ∀ j, j < k → j < a.size → R rk a j ≤ R rk b (nb - 1) := fun j j1 j2 => by
            have := By_f (k2 j j1)
            (clear j2 j1 k1 epb ep le b2 a2 b1 a1 hy hx eb e ea hl h0 hb1 hk; lia)
          apply wpS_ite
          case' h1 =>
            intro kpos
            refine wpS_ite (fun e => ?_) (fun e => ?_)
            · exact wpS_pure ⟨kp4, .inl ⟨_, _, rfl, mA.done (.inl (by simpa using e))⟩⟩
            have e1 : ¬ k = 0 := fun z => e (beq_iff_eq.mpr z)
            have a3 : 1 ≤ k := by (clear e kpos k1 epb rp ep le b2 a2 b1 a1 hy hx eb ea hl h0 hb1 hk; lia)
            have a4 : k ≤ a.size := by (clear a3 e1 e kpos epb rp ep le b2 b1 a1 hy hx eb ea hl h0 hb1 hk; lia)
            have le3 : k + nb + x + 1 + y ≤ a.size + b.size := by (clear a4 a3 e1 e kpos epb rp ep b2 a2 b1 a1 hy hx eb ea hl h0 hb1 hk; lia)
          case' h2 =>
            intro kpos
            have k0 : k = na := by (clear epb rp ep le b2 a2 b1 a1 hy hx eb e ea hl h0 hb1 hk; lia)
            have a3 : 1 ≤ na := a1
            have a4 : na ≤ a.size := a2
            have le3 : na + nb + x + 1 + y ≤ a.size + b.size := by (clear a4 a3 k0 kpos k1 epb rp ep b2 a2 b1 a1 hy hx eb e ea hl h0 hb1 hk; lia)
            rw [k0] at nxt
            replace mA := m
          all_goals
            have mB := mA.pushB (by (clear le3 a4 a3 kpos k1 epb rp ep le b2 a2 a1 hy hx eb e ea hl h0 hb1 hk; lia)) b2 nxt
            rw [epb] at mB
            refine wpS_bind (wpS_elem ep ?_)
            refine wpS_ite (fun e => ?_) (fun e => ?_)
            · exact wpS_pure ⟨kp4, .inl ⟨_, _, rfl, mB.first fun i j i1 i2 j1 j2 => mid i j _ i1 (eq_of_beq e) j2⟩⟩
            have e3 : ¬ nb - 1 = 1 := fun z => e (beq_iff_eq.mpr z)
            obtain ⟨q, eq, mq, rq⟩ := ina _ (Nat.lt_of_lt_of_le (Nat.sub_lt a3 Nat.one_pos) a4)
            refine wpS_bind (wpS_elem eq (wpS_bind (wpS_gallop C (kp4.k.trans hk) mq hb (by (clear rq eq e3 e le3 a4 a3 kpos k1 epb rp ep le a2 b1 a1 hy hx eb ea hl h0 hb1 hk; lia)) (by (clear rq eq e3 e le3 a4 a3 kpos k1 epb rp ep le b2 a2 a1 hy hx eb ea hl h0 hb1 hk; lia)) (fun i j h1 h2 h3 => sb i j (by (clear h3 h2 h1 rq eq e3 e le3 a4 a3 kpos k1 epb rp ep le b2 a2 b1 a1 hy hx eb ea hl h0 hb1 hk; lia)) h2 (by (clear h2 h1 rq eq e3 e le3 a4 a3 kpos k1 epb rp ep le a2 b1 a1 hy hx eb ea hl h0 hb1 hk; lia))) fun k' l1 l2 l3 => ?_)))
            dsimp only
            simp only [Nat.zero_add] at l2 l3
            have mC := mB.chunkB l1 fun i i1 i2 i3 j j1 j2 => by
              have e1 := By_t' (l3 i i1 i2)
              have e2 := sa j _ (by (clear e1 j2 j1 i3 i2 i1 l1 rq eq e3 e le3 a4 a3 kpos k1 epb rp ep le b2 a2 b1 a1 hy hx eb ea hl h0 hb1 hk; lia)) (Nat.le_sub_one_of_lt j1) (by (clear e1 j2 j1 i3 i2 i1 l1 rq eq e3 e le3 a4 a3 kpos epb rp ep le b2 b1 a1 hy hx eb ea hl h0 hb1 hk; lia))
              (clear j2 j1 i3 i2 i1 l1 eq e3 e le3 a4 a3 kpos k1 epb rp ep le b2 a2 b1 a1 hy hx eb ea hl h0 hb1 hk; lia)
            have nx : ∀ j, j < k' → j < b.size → R rk b j ≤ rk q.1 := fun j j1 j2 => by
              have := By_t (l2 j j1)
              (clear j2 j1 l1 rq eq e3 e le3 a4 a3 kpos k1 epb rp ep le b2 a2 b1 a1 hy hx eb ea hl h0 hb1 hk; lia)
            apply wpS_ite
            case' h1 =>
              intro kpos
              refine wpS_ite (fun e => ?_) (fun e => ?_)
              · exact wpS_pure ⟨kp4, .inl ⟨_, _, rfl, mC.first fun i j i1 i2 j1 j2 => mid i j _ i1 (eq_of_beq e) j2⟩⟩
              have e4 : ¬ k' = 1 := fun z => e (beq_iff_eq.mpr z)
              refine wpS_ite (fun e => ?_) (fun e => ?_)
              · exact wpS_pure ⟨kp4, .inl ⟨_, _, rfl, mC.done (.inr (by simpa using e))⟩⟩
              have e5 : ¬ k' = 0 := fun z => e (beq_iff_eq.mpr z)
              have b3 : 2 ≤ k' := by (clear e kpos l1 rq eq e3 le3 a4 a3 k1 epb rp ep le b2 a2 b1 a1 hy hx eb ea hl h0 hb1 hk; lia)
            case' h2 =>
              intro kpos
              have k0 : k' = nb - 1 := by (clear rq eq e3 e le3 a4 a3 k1 epb rp ep le b2 a2 b1 a1 hy hx eb ea hl h0 hb1 hk; lia)
              rw [k0] at nx
              have b3 : 2 ≤ nb - 1 := by (clear k0 kpos l1 rq eq e le3 a4 a3 k1 epb rp ep le b2 a2 a1 hy hx eb ea hl h0 hb1 hk; lia)
              replace mC := mB
            all_goals
              have mD := mC.pushA a3 a4 (fun j j1 j2 => by rw [rq]; exact nx j j1 j2)
              have eqa := Option.some.inj ((getElem?_pos a _ (by (clear b3 kpos l1 rq eq e3 e le3 k1 epb rp ep le b2 a2 b1 a1 hy hx eb ea hl h0 hb1 hk; lia))).symm.trans eq)
              rw [eqa] at mD
              refine wpS_bind (wpS_elem eq ?_)
              refine wpS_ite (fun e => ?_) (fun e => ?_)
              · exact wpS_pure ⟨kp4, .inl ⟨_, _, rfl, mD.done (.inl (eq_of_beq e))⟩⟩
              have e6 : ¬ _ = 0 := fun z => e (beq_iff_eq.mpr z)
              refine wpS_ite (fun _ => ?_) (fun _ => ?_)
              · exact wpS_pure ⟨kp4, .inr ⟨_, _, _, _, _, _, rfl, mD, by (clear e eqa b3 kpos l1 rq eq e3 le3 a4 a3 k1 epb rp ep le b2 a2 b1 a1 hy hx eb ea hl h0 hb1 hk; lia), by (clear e6 e eqa b3 kpos l1 rq eq le3 a4 a3 k1 epb rp ep le b2 a2 a1 hy hx eb ea hl h0 hb1 hk; lia), by (clear e6 e eqa b3 kpos l1 rq eq e3 le3 a4 a3 k1 epb rp ep le b2 b1 a1 hy hx eb ea hl h0 hb1 hk; lia), by (clear e6 e eqa b3 kpos rq eq e3 le3 a4 a3 k1 epb rp ep le a2 b1 a1 hy hx eb ea hl h0 hb1 hk; lia), by (clear e6 e eqa b3 kpos rq eq e3 le3 a4 a3 k1 epb rp ep b2 a2 b1 a1 hy hx eb ea hl h0 hb1 hk; lia)⟩⟩
              · exact wpS_pure ⟨kp4, _, _, _, _, _, _, rfl, mD, by (clear e eqa b3 kpos l1 rq eq e3 le3 a4 a3 k1 epb rp ep le b2 a2 b1 a1 hy hx eb ea hl h0 hb1 hk; lia), by (clear e6 e eqa b3 kpos l1 rq eq le3 a4 a3 k1 epb rp ep le b2 a2 a1 hy hx eb ea hl h0 hb1 hk; lia), by (clear e6 e eqa b3 kpos l1 rq eq e3 le3 a4 a3 k1 epb rp ep le b2 b1 a1 hy hx eb ea hl h0 hb1 hk; lia), by (clear e6 e eqa b3 kpos rq eq e3 le3 a4 a3 k1 epb rp ep le a2 b1 a1 hy hx eb ea hl h0 hb1 hk; lia), by (clear e6 e eqa b3 kpos rq eq e3 le3 a4 a3 k1 epb rp ep b2 a2 b1 hy hx eb ea hl h0 hb1 hk; lia)⟩
end
end Tim
set_option Elab.async false
set_option linter.all false
set_option maxRecDepth 100000
set_option maxHeartbeats 4000000
namespace Tim
open PySem PyProof.Rows
section
variable {prog : Program} {w : World} {A : Around} {E : Value → Shared → Prop} {s : Shared} {κ : SortKind} {a₀ : Array Keyed} {rk : Value → Nat} {pd : Array (Nat × Nat × Nat)}
structure SB (κ : SortKind) (a₀ : Array Keyed) (pd : Array (Nat × Nat × Nat)) (st : SortSt) : Prop where
  perm : (arrOf st).Perm a₀
  kind : kindOf st = κ
  failed : failedOf st = none
  pend : pendingOf st = pd
theorem SB.size {st : SortSt} (h : SB κ a₀ pd st) : (arrOf st).size = a₀.size := h.perm.size_eq
theorem SB.setArr {st : SortSt} (h : SB κ a₀ pd st) {xs : Array Keyed} (hp : xs.Perm (arrOf st)) : SB κ a₀ pd (setArr st xs) := ⟨hp.trans h.perm, h.kind, h.failed, h.pend⟩
theorem SB.mem {st : SortSt} (h : SB κ a₀ pd st) {p : Keyed} (hp : p ∈ (arrOf st).toList) : p ∈ a₀.toList := (Array.perm_iff_toList_perm.mp h.perm).mem_iff.mp hp
theorem wpS_ltAtR {st : SortSt} {i j : Nat} {Q : Option Bool → SortSt → Prop} (C : Cmp prog w A s κ a₀ rk) (hB : SB κ a₀ pd st) (hi : i < a₀.size) (hj : j < a₀.size) (h : Q (some (decide (R rk (arrOf st) i < R rk (arrOf st) j))) st) :
    wpS (model prog w) A E s (ltAt' i j) Q st := by
  rw [ltAt'_eq]
  refine wpS_bind (wpS_get ?_)
  have hi' : i < (arrOf st).size := by rw [hB.size]; exact hi
  have hj' : j < (arrOf st).size := by rw [hB.size]; exact hj
  rw [R_get hi', R_get hj'] at h
  exact wpS_bind (wpS_elem (getElem?_pos (arrOf st) i hi') (wpS_bind (wpS_elem (getElem?_pos (arrOf st) j hj') (wpS_lt C hB.kind (hB.mem (by simp)) (hB.mem (by simp)) h))))
/-- what stands ahead of lo is as it was -/
def Kb (lo : Nat) (st st' : SortSt) : Prop := ∀ i, i < lo → (arrOf st')[i]? = (arrOf st)[i]?
theorem Kb.refl {lo : Nat} {st : SortSt} : Kb lo st st := fun _ _ => rfl
theorem Kb.trans {lo : Nat} {a b c : SortSt} (h : Kb lo a b) (g : Kb lo b c) : Kb lo a c := fun i hi => (g i hi).trans (h i hi)
theorem R_mirror {xs : Array Keyed} {i j : Nat} (hj : j ≤ xs.size) (k : Nat) : R rk (mirror xs i j ((j - i) / 2)) k = if i ≤ k ∧ k < j then R rk xs (i + j - 1 - k) else R rk xs k := by
  have e := getElem?_mirror_all (i := i) hj k
  by_cases h1 : i ≤ k ∧ k < j
  · rw [if_pos h1] at e ⊢; exact R_congr e
  · rw [if_neg h1] at e ⊢; exact R_congr e
theorem kb_mirror {st : SortSt} {lo i j : Nat} (hj : j ≤ (arrOf st).size) (hi : lo ≤ i) : Kb lo st (setArr st (mirror (arrOf st) i j ((j - i) / 2))) := fun k hk => by
  show (mirror (arrOf st) i j ((j - i) / 2))[k]? = _
  rw [getElem?_mirror_all hj, if_neg (by (clear hj; lia))]
theorem R_mirror_eq {xs : Array Keyed} {i j : Nat} (hj : j ≤ xs.size) (heq : ∀ k, i ≤ k → k < j → R rk xs k = R rk xs (j - 1)) (k : Nat) : R rk (mirror xs i j ((j - i) / 2)) k = R rk xs k := by
  rw [R_mirror hj]
  split
  · rw [heq _ (by (clear hj; lia)) (by (clear hj; lia)), heq k (by (clear hj; lia)) (by (clear hj; lia))]
  · rfl
theorem R_bubble {xs : Array Keyed} {src d : Nat} (hs : src < xs.size) (hd : d ≤ src) (k : Nat) :
    R rk (bubble xs src d) k = if k = src - d then R rk xs src else if src - d < k ∧ k ≤ src then R rk xs (k - 1) else R rk xs k := by
  have e := getElem?_bubble hs d hd k
  by_cases h1 : k = src - d
  · rw [if_pos h1] at e ⊢; exact R_congr e
  · rw [if_neg h1] at e ⊢
    by_cases h2 : src - d < k ∧ k ≤ src
    · rw [if_pos h2] at e ⊢; exact R_congr e
    · rw [if_neg h2] at e ⊢; exact R_congr e
def Dwn (rk : Value → Nat) (xs : Array Keyed) (lo hi : Nat) : Prop := ∀ i j, lo ≤ i → i ≤ j → j < hi → R rk xs j ≤ R rk xs i
theorem wpS_countRun {st : SortSt} {lo nrem : Nat} {Q : Option Nat → SortSt → Prop} (C : Cmp prog w A s κ a₀ rk) (hn : lo + nrem ≤ a₀.size) (h1 : 1 ≤ nrem) (hB : SB κ a₀ pd st)
    (h : ∀ m st', SB κ a₀ pd st' → Kb lo st st' → 1 ≤ m → m ≤ nrem → Seg rk (arrOf st') lo (lo + m) → Q (some m) st') : wpS (model prog w) A E s (countRun' lo nrem) Q st := by
  rw [countRun'_eq]
  refine wpS_bind (wpS_mono (wpS_forRange (I := fun x c st' => st' = st ∧ c = (none, x) ∧ Seg rk (arrOf st) lo (lo + x))
    (Q := fun c st' => st' = st ∧ ∃ n, c = (none, n) ∧ 1 ≤ n ∧ n ≤ nrem ∧ Seg rk (arrOf st) lo (lo + n) ∧ (n = nrem ∨ R rk (arrOf st) (lo + n) < R rk (arrOf st) (lo + n - 1))) ?step ?fin ⟨rfl, rfl, fun i j a b c => by rw [show i = j by (clear h1 hn; lia)]; exact Nat.le_refl _⟩) ?post)
  case fin =>
    rintro c st' ⟨rfl, rfl, hs⟩
    rw [show max 1 nrem = nrem by (clear hn; lia)] at hs ⊢
    exact ⟨rfl, nrem, rfl, h1, Nat.le_refl _, hs, .inl rfl⟩
  case step =>
    rintro x c st' x1 xn ⟨rfl, rfl, hs⟩
    dsimp only
    refine wpS_bind (wpS_ltAtR C hB (by (clear x1 h1; lia)) (by (clear x1 h1; lia)) ?_)
    dsimp only
    refine wpS_ite (fun lt => ?_) (fun lt => ?_)
    · exact wpS_pure ⟨rfl, x, rfl, x1, by (clear lt x1 h1 hn; lia), hs, .inr (of_decide_eq_true lt)⟩
    · have lt : R rk (arrOf st') (lo + x - 1) ≤ R rk (arrOf st') (lo + x) := Nat.le_of_not_lt fun z => lt (decide_eq_true z)
      refine wpS_pure ⟨rfl, rfl, fun i j a b c => ?_⟩
      by_cases hj : j < lo + x
      · exact hs i j a b hj
      · have : j = lo + x := by (clear b a lt xn x1 h1 hn; lia)
        subst this
        by_cases hi : i = lo + x
        · rw [hi]; exact Nat.le_refl _
        · exact Nat.le_trans (hs i (lo + x - 1) a (by (clear hj c a lt xn x1 h1 hn; lia)) (by (clear hi hj c b a lt xn h1 hn; lia))) lt
  case post =>
    rintro c st' ⟨rfl, n, rfl, n1, nn, hs, hor⟩
    dsimp only
    have hsz : (arrOf st').size = a₀.size := hB.size
    refine wpS_ite (fun e => ?_) (fun e => ?_)
    · exact wpS_pure (h n _ hB Kb.refl n1 nn hs)
    have e : ¬ n = nrem := fun z => e (beq_iff_eq.mpr z)
    have lt := hor.resolve_left e
    have n2 : n + 1 ≤ nrem := by (clear lt hsz hor n1 h1 hn; lia)
    apply wpS_ite
    case' h1 =>
      intro gt
      refine wpS_bind (wpS_ltAtR C hB (by (clear gt n2 lt e hsz hor nn n1; lia)) (by (clear gt n2 lt e hsz hor n1; lia)) ?_)
      dsimp only
      refine wpS_ite (fun rose => ?_) (fun rose => ?_)
      · exact wpS_pure (h n _ hB Kb.refl n1 nn hs)
      have rose : R rk (arrOf st') (lo + n - 1) ≤ R rk (arrOf st') lo := Nat.le_of_not_lt fun z => rose (decide_eq_true z)
      have all : ∀ k, lo ≤ k → k < lo + n → R rk (arrOf st') k = R rk (arrOf st') (lo + n - 1) := fun k k1 k2 => by
        have a1 := hs lo k (Nat.le_refl _) k1 k2
        have a2 := hs k (lo + n - 1) k1 (by (clear a1 k1 rose gt n2 lt e hsz hor nn n1 h1 hn; lia)) (by (clear a1 k2 k1 rose gt n2 lt e hsz hor nn h1 hn; lia))
        (clear k2 k1 gt n2 lt e hsz hor nn n1 h1 hn; lia)
      rw [reverseSlice'_eq]
      refine wpS_bind (wpS_modify ?_)
      have hB1 : SB κ a₀ pd (setArr st' (mirror (arrOf st') lo (lo + n) ((lo + n - lo) / 2))) := hB.setArr (mirror_perm _ _ _ _)
      have k1 : Kb lo st' (setArr st' (mirror (arrOf st') lo (lo + n) ((lo + n - lo) / 2))) := kb_mirror (by (clear rose gt n2 lt e hor n1 h1; lia)) (Nat.le_refl _)
      have dw : Dwn rk (arrOf (setArr st' (mirror (arrOf st') lo (lo + n) ((lo + n - lo) / 2)))) lo (lo + n + 1) := fun i j a b c => by
        show R rk (mirror _ _ _ _) j ≤ R rk (mirror _ _ _ _) i
        rw [R_mirror_eq (by (clear c b a rose gt n2 lt e hor n1 h1; lia)) all, R_mirror_eq (by (clear c b a rose gt n2 lt e hor n1 h1; lia)) all]
        by_cases hj : j < lo + n
        · rw [all i a (by (clear c a rose gt n2 lt e hsz hor nn n1 h1 hn; lia)), all j (by (clear hj c rose gt n2 lt e hsz hor nn n1 h1 hn; lia)) hj]; exact Nat.le_refl _
        · have : j = lo + n := by (clear b a rose gt n2 lt e hsz hor nn n1 h1 hn; lia)
          subst this
          by_cases hi : i = lo + n
          · rw [hi]; exact Nat.le_refl _
          · rw [all i a (by (clear hj c a rose gt n2 lt e hsz hor nn n1 h1 hn; lia))]; (clear hi hj c b a rose gt n2 lt hsz nn n1 h1 hn; lia)
      generalize setArr st' (mirror (arrOf st') lo (lo + n) ((lo + n - lo) / 2)) = st1 at hB1 k1 dw ⊢
    case' h2 =>
      intro gt
      have hB1 := hB
      have k1 : Kb lo st' st' := Kb.refl
      have dw : Dwn rk (arrOf st') lo (lo + n + 1) := fun i j a b c => by
        have e1 : n = 1 := by (clear c b a n2 lt e hsz hor nn h1 hn; lia)
        subst e1
        by_cases hi : i = j
        · rw [hi]; exact Nat.le_refl _
        · have : i = lo + 1 - 1 := by (clear gt n2 lt e hor nn n1 hsz h1 hn; lia)
          have : j = lo + 1 := by (clear this gt n2 lt e hor nn n1 hsz h1 hn; lia)
          subst_vars
          (clear hi b c a gt n2 lt nn n1 hsz h1 hn; lia)
      revert hB1 k1 dw
      generalize hst : st' = st1
      intro hB1 k1 dw
    all_goals
      refine wpS_bind (wpS_lift (wpAny_rule ⟨rfl, ?_⟩))
      refine wpS_bind (wpS_mono (wpS_forRange (I := fun x c st2 => ∃ neq, c = (none, x, neq) ∧ SB κ a₀ pd st2 ∧ Kb lo st1 st2 ∧ Dwn rk (arrOf st2) lo (lo + x) ∧ neq + 1 ≤ x ∧ (∀ i, lo + x - (neq + 1) ≤ i → i < lo + x → R rk (arrOf st2) i = R rk (arrOf st2) (lo + x - 1)))
        (Q := fun c st2 => ∃ x neq, c = (none, x, neq) ∧ n + 1 ≤ x ∧ x ≤ nrem ∧ SB κ a₀ pd st2 ∧ Kb lo st1 st2 ∧ Dwn rk (arrOf st2) lo (lo + x) ∧ neq + 1 ≤ x ∧ (∀ i, lo + x - (neq + 1) ≤ i → i < lo + x → R rk (arrOf st2) i = R rk (arrOf st2) (lo + x - 1))) ?_ ?_ ⟨0, rfl, hB1, Kb.refl, dw, by (clear gt n2 lt e hsz hor nn n1 h1 hn; lia), fun i a b => by congr 1; (clear gt n2 lt e hsz hor nn n1 h1 hn; lia)⟩) ?_)
      · rintro x c st2 x1 xn ⟨neq, rfl, hB2, k2, d2, q2, e2⟩
        dsimp only
        have sz2 : (arrOf st2).size = a₀.size := hB2.size
        refine wpS_bind (wpS_ltAtR C hB2 (by (clear sz2 q2 x1 gt n2 lt e hsz hor nn n1 h1; lia)) (by (clear sz2 q2 x1 gt n2 lt e hsz hor nn n1 h1; lia)) ?_)
        dsimp only
        refine wpS_ite (fun lt => ?_) (fun lt => ?_)
        · have lt : R rk (arrOf st2) (lo + x) < R rk (arrOf st2) (lo + x - 1) := of_decide_eq_true lt
          have step1 : ∀ xs : Array Keyed, (∀ k, R rk xs k = R rk (arrOf st2) k) → Dwn rk xs lo (lo + (x + 1)) := by
            intro xs hk i j a b c
            rw [hk, hk]
            by_cases hj : j < lo + x
            · exact d2 i j a b hj
            · have : j = lo + x := by (clear b a lt sz2 q2 xn x1 gt n2 e hsz hor nn n1 h1 hn; lia)
              subst this
              by_cases hi : i = lo + x
              · rw [hi]; exact Nat.le_refl _
              · exact Nat.le_trans (Nat.le_of_lt lt) (d2 i (lo + x - 1) a (by (clear hj c a lt sz2 q2 xn x1 gt n2 e hsz hor nn n1 h1 hn; lia)) (by (clear hi hj c b a lt sz2 q2 xn gt n2 e hsz hor nn n1 h1 hn; lia)))
          refine wpS_ite (fun _ => ?_) (fun _ => ?_)
          · rw [reverseSlice'_eq]
            refine wpS_bind (wpS_modify (wpS_pure ⟨0, rfl, hB2.setArr (mirror_perm _ _ _ _), k2.trans (kb_mirror (by (clear lt q2 x1 gt n2 e hsz hor nn n1 h1; lia)) (by (clear lt sz2 xn x1 gt n2 e hsz hor nn n1 h1 hn; lia))), step1 _ (R_mirror_eq (by (clear lt q2 x1 gt n2 e hsz hor nn n1 h1; lia)) e2), by (clear lt sz2 q2 xn x1 gt n2 e hsz hor nn n1 h1 hn; lia), fun i a b => by congr 1; (clear lt sz2 q2 xn x1 gt n2 e hsz hor nn n1 h1 hn; lia)⟩))
          · exact wpS_pure ⟨0, rfl, hB2, k2, step1 _ (fun _ => rfl), by (clear lt sz2 q2 xn x1 gt n2 e hsz hor nn n1 h1 hn; lia), fun i a b => by congr 1; (clear lt sz2 q2 xn x1 gt n2 e hsz hor nn n1 h1 hn; lia)⟩
        · have ge : R rk (arrOf st2) (lo + x - 1) ≤ R rk (arrOf st2) (lo + x) := Nat.le_of_not_lt fun z => lt (decide_eq_true z)
          refine wpS_bind (wpS_ltAtR C hB2 (by (clear ge lt sz2 q2 x1 gt n2 e hsz hor nn n1 h1; lia)) (by (clear ge lt sz2 q2 x1 gt n2 e hsz hor nn n1 h1; lia)) ?_)
          dsimp only
          refine wpS_ite (fun lg => ?_) (fun lg => ?_)
          · exact wpS_pure ⟨x, neq, rfl, x1, by (clear lg ge lt sz2 q2 x1 gt n2 e hsz hor nn n1 h1 hn; lia), hB2, k2, d2, q2, e2⟩
          · have le : R rk (arrOf st2) (lo + x) ≤ R rk (arrOf st2) (lo + x - 1) := Nat.le_of_not_lt fun z => lg (decide_eq_true z)
            have eqx : R rk (arrOf st2) (lo + x) = R rk (arrOf st2) (lo + x - 1) := by (clear lg lt sz2 q2 xn x1 gt n2 e hsz hor nn n1 h1 hn; lia)
            refine wpS_pure ⟨neq + 1, rfl, hB2, k2, fun i j a b c => ?_, by (clear eqx le lg ge lt sz2 xn x1 gt n2 e hsz hor nn n1 h1 hn; lia), fun i a b => ?_⟩
            · by_cases hj : j < lo + x
              · exact d2 i j a b hj
              · have : j = lo + x := by (clear b a eqx le lg ge lt sz2 q2 xn x1 gt n2 e hsz hor nn n1 h1 hn; lia)
                subst this
                by_cases hi : i = lo + x
                · rw [hi]; exact Nat.le_refl _
                · rw [eqx]; exact d2 i (lo + x - 1) a (by (clear hj c a eqx le lg ge lt sz2 q2 xn x1 gt n2 e hsz hor nn n1 h1 hn; lia)) (by (clear hi hj c b a eqx le lg ge lt sz2 q2 xn gt n2 e hsz hor nn n1 h1 hn; lia))
            · rw [show lo + (x + 1) - 1 = lo + x by (clear b a eqx le lg ge lt sz2 q2 xn x1 gt n2 e hsz hor nn n1 h1 hn; lia)]
              by_cases hi : i = lo + x
              · rw [hi]
              · rw [eqx]; exact e2 i (by (clear hi b eqx le lg ge lt sz2 q2 xn x1 gt n2 e hsz hor nn n1 h1 hn; lia)) (by (clear a eqx le lg ge lt sz2 q2 xn x1 gt n2 e hsz hor nn n1 h1 hn; lia))
      · rintro c st2 ⟨neq, rfl, hB2, k2, d2, q2, e2⟩
        rw [show max (n + 1) nrem = nrem by (clear q2 gt n2 lt hsz hor n1 h1 hn; lia)] at d2 q2 e2 ⊢
        exact ⟨nrem, neq, rfl, n2, Nat.le_refl _, hB2, k2, d2, q2, e2⟩
      · rintro c st2 ⟨x, neq, rfl, x1, xn, hB2, k2, d2, q2, e2⟩
        dsimp only
        have sz2 : (arrOf st2).size = a₀.size := hB2.size
        apply wpS_ite
        case' h1 =>
          intro _
          rw [reverseSlice'_eq]
          refine wpS_bind (wpS_modify ?_)
          have hB3 : SB κ a₀ pd (setArr st2 (mirror (arrOf st2) (lo + x - (neq + 1)) (lo + x) ((lo + x - (lo + x - (neq + 1))) / 2))) := hB2.setArr (mirror_perm _ _ _ _)
          have k3 := k2.trans (kb_mirror (st := st2) (lo := lo) (i := lo + x - (neq + 1)) (j := lo + x) (by (clear q2 x1 gt n2 lt e hsz hor nn n1 h1; lia)) (by (clear sz2 xn x1 gt n2 lt e hsz hor nn n1 h1 hn; lia)))
          have d3 : Dwn rk (arrOf (setArr st2 (mirror (arrOf st2) (lo + x - (neq + 1)) (lo + x) ((lo + x - (lo + x - (neq + 1))) / 2)))) lo (lo + x) := fun i j a b c => by
            show R rk (mirror _ _ _ _) j ≤ R rk (mirror _ _ _ _) i
            rw [R_mirror_eq (by (clear c b a q2 x1 gt n2 lt e hsz hor nn n1 h1; lia)) e2, R_mirror_eq (by (clear c b a q2 x1 gt n2 lt e hsz hor nn n1 h1; lia)) e2]
            exact d2 i j a b c
          generalize setArr st2 (mirror (arrOf st2) (lo + x - (neq + 1)) (lo + x) ((lo + x - (lo + x - (neq + 1))) / 2)) = st3 at hB3 k3 d3 ⊢
        case' h2 =>
          intro _
          have hB3 := hB2
          have k3 := k2
          have d3 := d2
          revert hB3 k3 d3
          generalize st2 = st3
          intro hB3 k3 d3
        all_goals
          have sz3 : (arrOf st3).size = a₀.size := hB3.size
          rw [reverseSlice'_eq]
          refine wpS_bind (wpS_modify ?_)
          have hB4 : SB κ a₀ pd (setArr st3 (mirror (arrOf st3) lo (lo + x) ((lo + x - lo) / 2))) := hB3.setArr (mirror_perm _ _ _ _)
          have k4 := k3.trans (kb_mirror (st := st3) (lo := lo) (i := lo) (j := lo + x) (by (clear sz2 q2 x1 gt n2 lt e hsz hor nn n1 h1; lia)) (by (clear sz3 sz2 q2 xn x1 gt n2 lt e hsz hor nn n1 h1 hn; lia)))
          have s4 : Seg rk (arrOf (setArr st3 (mirror (arrOf st3) lo (lo + x) ((lo + x - lo) / 2)))) lo (lo + x) := fun i j a b c => by
            show R rk (mirror _ _ _ _) i ≤ R rk (mirror _ _ _ _) j
            rw [R_mirror (by (clear c b a sz2 q2 x1 gt n2 lt e hsz hor nn n1 h1; lia)), R_mirror (by (clear c b a sz2 q2 x1 gt n2 lt e hsz hor nn n1 h1; lia)), if_pos (by (clear sz3 sz2 q2 xn x1 gt n2 lt e hsz hor nn n1 h1 hn; lia)), if_pos (by (clear sz3 sz2 q2 xn x1 gt n2 lt e hsz hor nn n1 h1 hn; lia))]
            exact d3 _ _ (by (clear b a sz3 sz2 q2 xn x1 gt n2 lt e hsz hor nn n1 h1 hn; lia)) (by (clear c a sz3 sz2 q2 xn x1 gt n2 lt e hsz hor nn n1 h1 hn; lia)) (by (clear c b sz3 sz2 q2 xn gt n2 lt e hsz hor nn n1 h1 hn; lia))
          generalize setArr st3 (mirror (arrOf st3) lo (lo + x) ((lo + x - lo) / 2)) = st4 at hB4 k4 s4 ⊢
          refine wpS_bind (wpS_mono (wpS_forRange (I := fun y c st5 => st5 = st4 ∧ c = (none, y) ∧ Seg rk (arrOf st4) lo (lo + y))
            (Q := fun c st5 => st5 = st4 ∧ ∃ y, c = (none, y) ∧ x ≤ y ∧ y ≤ nrem ∧ Seg rk (arrOf st4) lo (lo + y)) ?_ ?_ ⟨rfl, rfl, s4⟩) ?_)
          · rintro y c st5 y1 yn ⟨rfl, rfl, hs5⟩
            dsimp only
            refine wpS_bind (wpS_ltAtR C hB4 (by (clear y1 sz3 sz2 q2 xn x1 gt n2 lt e hsz hor nn n1 h1; lia)) (by (clear y1 sz3 sz2 q2 xn x1 gt n2 lt e hsz hor nn n1 h1; lia)) ?_)
            dsimp only
            refine wpS_ite (fun lt => ?_) (fun lt => ?_)
            · exact wpS_pure ⟨rfl, y, rfl, y1, by (clear lt y1 sz3 sz2 q2 xn x1 gt n2 e hsz hor nn n1 h1 hn; lia), hs5⟩
            · have lt : R rk (arrOf st5) (lo + y - 1) ≤ R rk (arrOf st5) (lo + y) := Nat.le_of_not_lt fun z => lt (decide_eq_true z)
              refine wpS_pure ⟨rfl, rfl, fun i j a b c => ?_⟩
              by_cases hj : j < lo + y
              · exact hs5 i j a b hj
              · have : j = lo + y := by (clear b a lt yn y1 sz3 sz2 q2 xn x1 gt n2 e hsz hor nn n1 h1 hn; lia)
                subst this
                by_cases hi : i = lo + y
                · rw [hi]; exact Nat.le_refl _
                · exact Nat.le_trans (hs5 i (lo + y - 1) a (by (clear hj c a lt yn y1 sz3 sz2 q2 xn x1 gt n2 e hsz hor nn n1 h1 hn; lia)) (by (clear hi hj c b a lt yn sz3 sz2 q2 xn gt n2 e hsz hor nn n1 h1 hn; lia))) lt
          · rintro c st5 ⟨rfl, rfl, hs5⟩
            rw [show max x nrem = nrem by (clear sz3 sz2 q2 x1 gt n2 lt e hsz hor nn n1 h1 hn; lia)] at hs5 ⊢
            exact ⟨rfl, nrem, rfl, xn, Nat.le_refl _, hs5⟩
          · rintro c st5 ⟨rfl, y, rfl, y1, yn, hs5⟩
            exact wpS_pure (h y _ hB4 (by first | exact k1.trans k4 | (subst hst; exact k4)) (by (clear yn sz3 sz2 q2 xn gt n2 lt e hsz hor nn n1 h1 hn; lia)) yn hs5)
theorem wpS_binarySort {st : SortSt} {lo n ok : Nat} {Q : Bool → SortSt → Prop} (C : Cmp prog w A s κ a₀ rk) (hn : lo + n ≤ a₀.size) (hok : ok ≤ n) (hB : SB κ a₀ pd st) (hs : Seg rk (arrOf st) lo (lo + ok))
    (h : ∀ st', SB κ a₀ pd st' → Kb lo st st' → Seg rk (arrOf st') lo (lo + n) → Q true st') : wpS (model prog w) A E s (binarySort' lo n ok) Q st := by
  rw [binarySort'_eq]
  refine wpS_bind (wpS_mono (wpS_forRange (I := fun k c st' => c = (none, ()) ∧ SB κ a₀ pd st' ∧ Kb lo st st' ∧ Seg rk (arrOf st') lo (lo + min k n))
    (Q := fun c st' => c = (none, ()) ∧ SB κ a₀ pd st' ∧ Kb lo st st' ∧ Seg rk (arrOf st') lo (lo + n)) ?step ?fin ?init) ?post)
  case post =>
    rintro c st' ⟨rfl, hB', k', hs'⟩
    exact wpS_pure (h st' hB' k' hs')
  case init =>
    refine ⟨rfl, hB, Kb.refl, fun i j a b c => ?_⟩
    by_cases h1 : ok = 0
    · rw [show i = j by (clear hok hn; lia)]; exact Nat.le_refl _
    · exact hs i j a b (by (clear b a hok hn; lia))
  case fin =>
    rintro c st' ⟨hc, hB', k', hs'⟩
    refine ⟨hc, hB', k', ?_⟩
    rwa [show min (max (max ok 1) n) n = n by (clear hc hok hn; lia)] at hs'
  case step =>
    rintro k c st' hak hkn ⟨rfl, hB', k', hs'⟩
    rw [show min k n = k by (clear hak hok hn; lia)] at hs'
    have sz : (arrOf st').size = a₀.size := hB'.size
    refine wpS_bind (wpS_mono (wpS_forRange (I := fun x c st'' => st'' = st' ∧ ∃ l r, c = (none, l, r) ∧ l ≤ r ∧ r ≤ k ∧ r - l ≤ k - x ∧
        (∀ i, i < l → R rk (arrOf st') (lo + i) ≤ R rk (arrOf st') (lo + k)) ∧ (∀ i, r ≤ i → i < k → R rk (arrOf st') (lo + k) < R rk (arrOf st') (lo + i)))
      (Q := fun c st'' => st'' = st' ∧ ∃ l r, c = (none, l, r) ∧ l ≤ k ∧
        (∀ i, i < l → R rk (arrOf st') (lo + i) ≤ R rk (arrOf st') (lo + k)) ∧ (∀ i, l ≤ i → i < k → R rk (arrOf st') (lo + k) < R rk (arrOf st') (lo + i))) ?istep ?ifin ?iinit) ?ipost)
    case iinit => exact ⟨rfl, 0, k, rfl, by (clear sz hkn hak hok hn; lia), by (clear sz hkn hak hok hn; lia), by (clear sz hkn hak hok hn; lia), fun i hi => by (clear sz hkn hak hok hn; lia), fun i h1 h2 => by (clear sz hkn hak hok hn; lia)⟩
    case ifin =>
      rintro c st'' ⟨rfl, l, r, rfl, hlr, hrk, hm, hlo, hhi⟩
      have : l = r := by (clear hrk sz hkn hak hok hn; lia)
      subst this
      exact ⟨rfl, l, l, rfl, hrk, hlo, hhi⟩
    case istep =>
      rintro x c st'' _ hxk ⟨rfl, l, r, rfl, hlr, hrk, hm, hlo, hhi⟩
      dsimp only
      refine wpS_ite (fun hge => ?_) (fun hge => ?_)
      · have : l = r := by (clear hm hrk sz hxk hkn hak hok hn; lia)
        subst this
        exact wpS_pure ⟨rfl, l, l, rfl, hrk, hlo, hhi⟩
      · refine wpS_bind (wpS_ltAtR C hB' (by (clear hge hm hrk hlr sz hxk hak hok; lia)) (by (clear hge hm sz hxk hak hok; lia)) ?_)
        dsimp only
        refine wpS_ite (fun lt => ?_) (fun lt => ?_)
        · have lt := of_decide_eq_true lt
          refine wpS_pure ⟨rfl, l, (l + r) / 2, rfl, by (clear lt hge hm hrk sz hxk hkn hak hok hn; lia), by (clear lt hge hm sz hxk hkn hak hok hn; lia), by (clear lt hge hrk hlr sz hxk hkn hak hok hn; lia), hlo, fun i h1 h2 => ?_⟩
          exact Nat.lt_of_lt_of_le lt (hs' _ _ (by (clear h2 h1 lt hge hm hrk hlr sz hxk hkn hak hok hn; lia)) (by (clear h2 lt hge hm hrk hlr sz hxk hkn hak hok hn; lia)) (by (clear h1 lt hge hm hrk hlr sz hxk hkn hak hok hn; lia)))
        · have lt : R rk (arrOf st'') (lo + (l + r) / 2) ≤ R rk (arrOf st'') (lo + k) := Nat.le_of_not_lt fun z => lt (decide_eq_true z)
          refine wpS_pure ⟨rfl, (l + r) / 2 + 1, r, rfl, by (clear lt hm hrk hlr sz hxk hkn hak hok hn; lia), by (clear lt hge hm hlr sz hxk hkn hak hok hn; lia), by (clear lt hge hrk hlr sz hxk hkn hak hok hn; lia), fun i h1 => ?_, hhi⟩
          exact Nat.le_trans (hs' (lo + i) (lo + (l + r) / 2) (by (clear h1 lt hge hm hrk hlr sz hxk hkn hak hok hn; lia)) (by (clear lt hge hm hrk hlr sz hxk hkn hak hok hn; lia)) (by (clear h1 lt hm hlr sz hxk hkn hak hok hn; lia))) lt
    case ipost =>
      rintro c st'' ⟨rfl, l, r, rfl, hlk, hlo, hhi⟩
      show wpS _ _ _ _ (do moveDown' (lo + k) (lo + l); pure (ForInStep.yield (none, ()))) _ _
      rw [moveDown'_eq]
      refine wpS_bind (wpS_modify (wpS_pure ⟨rfl, hB'.setArr (bubble_perm _ _ _), k'.trans ?_, ?_⟩))
      · intro i hi
        show (bubble (arrOf st'') (lo + k) (lo + k - (lo + l)))[i]? = _
        rw [getElem?_bubble (by (clear hi hlk hak hok; lia)) _ (by (clear hi hlk sz hkn hak hok hn; lia)), if_neg (by (clear hlk sz hkn hak hok hn; lia)), if_neg (by (clear hlk sz hkn hak hok hn; lia))]
      rw [show min (k + 1) n = k + 1 by (clear hlk sz hak hok hn; lia)]
      intro i j a b c
      show R rk (bubble (arrOf st'') (lo + k) (lo + k - (lo + l))) i ≤ R rk (bubble (arrOf st'') (lo + k) (lo + k - (lo + l))) j
      rw [R_bubble (by (clear c b a hlk hak hok; lia)) (by (clear c b a hlk sz hkn hak hok hn; lia)), R_bubble (by (clear c b a hlk hak hok; lia)) (by (clear c b a hlk sz hkn hak hok hn; lia)), show lo + k - (lo + k - (lo + l)) = lo + l by (clear c b a sz hkn hak hok hn; lia)]
      have L1 : ∀ i, lo ≤ i → i < lo + l → R rk (arrOf st'') i ≤ R rk (arrOf st'') (lo + k) := fun i i1 i2 => by
        have := hlo (i - lo) (by (clear c b a hlk sz hkn hak hok hn; lia)); rwa [show lo + (i - lo) = i by (clear this i2 c b a hlk sz hkn hak hok hn; lia)] at this
      have L2 : ∀ i, lo + l ≤ i → i < lo + k → R rk (arrOf st'') (lo + k) < R rk (arrOf st'') i := fun i i1 i2 => by
        have := hhi (i - lo) (by (clear i2 c b a hlk sz hkn hak hok hn; lia)) (by (clear i1 c b a hlk sz hkn hok hn; lia)); rwa [show lo + (i - lo) = i by (clear this i2 c b a hlk sz hkn hak hok hn; lia)] at this
      repeat' split
      all_goals first
        | (exfalso; (clear a hlk sz hkn hak hok hn; lia))
        | exact Nat.le_refl _
        | exact L1 _ (by (clear c b hlk sz hkn hak hok hn; lia)) (by (clear c a hlk sz hkn hak hok hn; lia))
        | exact Nat.le_of_lt (L2 _ (by (clear c b a hlk sz hkn hak hok hn; lia)) (by (clear c b a hlk sz hkn hak hok hn; lia)))
        | exact hs' _ _ (by (clear c b hlk sz hkn hak hok hn; lia)) (by (clear c a hlk sz hkn hak hok hn; lia)) (by (clear b a sz hkn hak hok hn; lia))
end
end Tim
set_option Elab.async false
set_option linter.all false
set_option maxRecDepth 100000
set_option maxHeartbeats 4000000
namespace Tim
open PySem PyProof.Rows
theorem mergeAt'_eq (i : Nat) : mergeAt' i = (do
  let s ← get
  let (some (sa, na, power), some (sb, nb, _)) := ((pendingOf s)[i]?, (pendingOf s)[i + 1]?) | unsupported "internal:list.sort.pending"
  set (SortSt.mk' (kindOf s) (arrOf s) (((pendingOf s).setIfInBounds i (sa, na + nb, power)).eraseIdxIfInBounds (i + 1)) (gallopOf s) (failedOf s))
  let some k ← gallop' false (← elem' (arrOf s) sb) (arrOf s) sa na 0 | return false
  let (sa, na) := (sa + k, na - k)
  if na == 0 then return true
  let some nb ← gallop' true (← elem' (arrOf s) (sa + na - 1)) (arrOf s) sb nb (nb - 1) | return false
  if nb == 0 then return true
  let x := (arrOf s).extract sa sb
  let y := (arrOf s).extract sb (sb + nb)
  let merged ← if na ≤ nb then mergeLo' x y else mergeHi' x y
  modify fun s => setArr s (merged.toList.zipIdx.foldl (fun a (p, j) => a.setIfInBounds (sa + j) p) (arrOf s))
  return (failedOf (← get)).isNone) := rfl
section
variable {prog : Program} {w : World} {A : Around} {E : Value → Shared → Prop} {s : Shared} {κ : SortKind} {a₀ : Array Keyed} {rk : Value → Nat} {pd : Array (Nat × Nat × Nat)}
theorem put_get (b : Nat) (m : List Keyed) : ∀ (n : Nat) (xs : Array Keyed) (j : Nat), b + n + m.length ≤ xs.size → ((m.zipIdx n).foldl (fun a x => a.setIfInBounds (b + x.2) x.1) xs)[j]? = if b + n ≤ j ∧ j < b + n + m.length then m[j - (b + n)]? else xs[j]? := by
  induction m with
  | nil => intro n xs j h; rw [if_neg (by simp)]; rfl
  | cons p m ih =>
    intro n xs j h
    rw [List.length_cons] at h
    rw [List.zipIdx_cons, List.foldl_cons, ih (n + 1) _ j (by rw [Array.size_setIfInBounds]; lia)]
    by_cases e : j = b + n
    · subst e
      rw [if_neg (by (clear h; lia)), if_pos (by rw [List.length_cons]; (clear h; lia)), Nat.sub_self]
      rw [Array.getElem?_setIfInBounds_self_of_lt (by lia)]
      rfl
    · by_cases c : b + (n + 1) ≤ j ∧ j < b + (n + 1) + m.length
      · rw [if_pos c, if_pos (by rw [List.length_cons]; (clear e h; lia)), show j - (b + n) = (j - (b + (n + 1))) + 1 by (clear e h; lia), List.getElem?_cons_succ]
      · rw [if_neg c, if_neg (by rw [List.length_cons]; (clear h; lia)), Array.getElem?_setIfInBounds_ne (Ne.symm e)]
theorem put_perm {b n : Nat} {m : List Keyed} {xs : Array Keyed} (hl : m.length = n) (hb : b + n ≤ xs.size) (hp : m.Perm ((xs.toList.drop b).take n)) : ((m.zipIdx).foldl (fun a x => a.setIfInBounds (b + x.2) x.1) xs).Perm xs := by
  have e : ((m.zipIdx).foldl (fun a x => a.setIfInBounds (b + x.2) x.1) xs).toList = xs.toList.take b ++ (m ++ xs.toList.drop (b + n)) := by
    have hx : xs.toList.length = xs.size := Array.length_toList
    apply List.ext_getElem?
    intro j
    rw [Array.getElem?_toList, put_get b m 0 xs j (by (clear hx; lia))]
    by_cases j1 : j < b
    · rw [if_neg (by (clear hx hb hl; lia)), List.getElem?_append_left (by rw [List.length_take, hx]; (clear hx hl; lia)), List.getElem?_take_of_lt j1, Array.getElem?_toList]
    · rw [List.getElem?_append_right (by rw [List.length_take, hx]; (clear hx hb hl; lia)), List.length_take, hx, Nat.min_eq_left (by (clear j1 hx hl; lia))]
      by_cases j2 : j < b + n
      · rw [if_pos (by (clear hx hb; lia)), List.getElem?_append_left (by (clear hx hb; lia))]; rfl
      · rw [if_neg (by (clear j1 hx hb; lia)), List.getElem?_append_right (by (clear j1 hx hb; lia)), List.getElem?_drop, Array.getElem?_toList]
        congr 1
        (clear j1 hx hb; lia)
  refine Array.perm_iff_toList_perm.mpr ?_
  rw [e]
  have sp : xs.toList = xs.toList.take b ++ ((xs.toList.drop b).take n ++ xs.toList.drop (b + n)) := by
    rw [← drop_split, List.take_append_drop]
  refine List.Perm.trans ?_ (List.Perm.of_eq sp.symm)
  exact List.Perm.append_left _ (List.Perm.append_right _ hp)
theorem R_ext {xs : Array Keyed} {lo hi i : Nat} (h : lo + i < hi) (hh : hi ≤ xs.size) : R rk (xs.extract lo hi) i = R rk xs (lo + i) := by
  apply R_congr
  rw [Array.getElem?_extract]
  rw [if_pos (by lia)]
theorem wpS_set {σ : Type} {M : Model} {A : Around} {E : Value → Shared → Prop} {s : Shared} {x : σ} {Q : PUnit → σ → Prop} {st : σ} (h : Q ⟨⟩ x) : wpS M A E s (set x : StateT σ Sem PUnit) Q st := by
  unfold wpS; rw [StateT.run_set]; exact wpAny_pure ⟨rfl, h⟩
theorem wpS_mergeAt {st : SortSt} {i sa na pw sb nb pw2 : Nat} {Q : Bool → SortSt → Prop} (C : Cmp prog w A s κ a₀ rk) (hB : SB κ a₀ pd st) (h1 : pd[i]? = some (sa, na, pw)) (h2 : pd[i + 1]? = some (sb, nb, pw2)) (hsb : sb = sa + na) (na1 : 1 ≤ na) (nb1 : 1 ≤ nb) (hz : sb + nb ≤ a₀.size)
    (s1 : Seg rk (arrOf st) sa (sa + na)) (s2 : Seg rk (arrOf st) sb (sb + nb))
    (h : ∀ st', SB κ a₀ ((pd.setIfInBounds i (sa, na + nb, pw)).eraseIdxIfInBounds (i + 1)) st' → (∀ j, j < sa ∨ sb + nb ≤ j → (arrOf st')[j]? = (arrOf st)[j]?) → Seg rk (arrOf st') sa (sb + nb) → Q true st') :
    wpS (model prog w) A E s (mergeAt' i) Q st := by
  rw [mergeAt'_eq]
  refine wpS_bind (wpS_get ?_)
  rw [hB.pend, h1, h2]
  dsimp only
  have sz : (arrOf st).size = a₀.size := hB.size
  have harr : ∀ p ∈ (arrOf st).toList, p ∈ a₀.toList := fun p hp => hB.mem hp
  have ina : ∀ i, i < a₀.size → ∃ p, (arrOf st)[i]? = some p ∧ p ∈ a₀.toList ∧ R rk (arrOf st) i = rk p.1 := fun i hi => ⟨(arrOf st)[i]'(by (clear hz nb1 na1 hsb h2 h1; lia)), getElem?_pos (arrOf st) i (by (clear hz nb1 na1 hsb h2 h1; lia)), hB.mem (by simp), R_get (by (clear hz nb1 na1 hsb h2 h1; lia))⟩
  refine wpS_bind (wpS_set ?_)
  have hB1 : SB κ a₀ ((pd.setIfInBounds i (sa, na + nb, pw)).eraseIdxIfInBounds (i + 1)) (SortSt.mk' (kindOf st) (arrOf st) ((pd.setIfInBounds i (sa, na + nb, pw)).eraseIdxIfInBounds (i + 1)) (gallopOf st) (failedOf st)) := ⟨hB.perm, hB.kind, hB.failed, rfl⟩
  have hA1 : arrOf (SortSt.mk' (kindOf st) (arrOf st) ((pd.setIfInBounds i (sa, na + nb, pw)).eraseIdxIfInBounds (i + 1)) (gallopOf st) (failedOf st)) = arrOf st := rfl
  generalize (pd.setIfInBounds i (sa, na + nb, pw)).eraseIdxIfInBounds (i + 1) = pd1 at hB1 hA1 h ⊢
  generalize SortSt.mk' (kindOf st) (arrOf st) pd1 (gallopOf st) (failedOf st) = st1 at hB1 hA1 ⊢
  obtain ⟨p, ep, mp, rp⟩ := ina sb (by (clear hA1 sz na1 hsb h2 h1; lia))
  refine wpS_bind (wpS_elem ep (wpS_bind (wpS_gallop C hB1.kind mp harr (by (clear rp ep hA1 nb1 na1 h2 h1; lia)) (by (clear rp ep hA1 sz hz nb1 hsb h2 h1; lia)) s1 fun k k1 k2 k3 => ?_)))
  dsimp only
  refine wpS_ite (fun e => ?_) (fun e => ?_)
  · have e : na - k = 0 := eq_of_beq e
    refine wpS_pure (h st1 hB1 (fun j _ => by rw [hA1]) fun i j a b c => ?_)
    rw [hA1]
    by_cases hj : j < sb
    · exact s1 i j a b (by (clear c b a e k1 rp ep hA1 sz hz nb1 na1 h2 h1; lia))
    · by_cases hi : i < sb
      · have e1 := By_f (k2 (i - sa) (by (clear hj c b a k1 rp ep hA1 sz hz nb1 h2 h1; lia)))
        rw [show sa + (i - sa) = i by (clear e1 hi hj c b e k1 rp ep hA1 sz hz nb1 na1 hsb h2 h1; lia)] at e1
        have e2 := s2 sb j (Nat.le_refl _) (by (clear e1 hi c b a e k1 rp ep hA1 sz hz nb1 na1 hsb h2 h1; lia)) c
        (clear hi hj c b a e k1 ep hA1 sz hz nb1 na1 hsb h2 h1; lia)
      · exact s2 i j (by (clear hj c b a e k1 rp ep hA1 sz hz nb1 na1 hsb h2 h1; lia)) b c
  have ek : k < na := by have : ¬ na - k = 0 := fun z => e (beq_iff_eq.mpr z); (clear e k1 rp ep hA1 sz hz nb1 na1 hsb h2 h1; lia)
  obtain ⟨q, eq, mq, rq⟩ := ina (sa + k + (na - k) - 1) (by (clear ek e rp ep hA1 sz nb1 h2 h1; lia))
  refine wpS_bind (wpS_elem eq (wpS_bind (wpS_gallop C hB1.kind mq harr (by (clear rq eq ek e k1 rp ep hA1 nb1 na1 hsb h2 h1; lia)) (by (clear rq eq ek e k1 rp ep hA1 sz hz na1 hsb h2 h1; lia)) s2 fun n2 l1 l2 l3 => ?_)))
  dsimp only
  have elast : sa + k + (na - k) - 1 = sb - 1 := by (clear l1 rq eq ek e rp ep hA1 sz hz nb1 na1 h2 h1; lia)
  rw [elast] at rq
  refine wpS_ite (fun e => ?_) (fun e => ?_)
  · have e : n2 = 0 := eq_of_beq e
    refine wpS_pure (h st1 hB1 (fun j _ => by rw [hA1]) fun i j a b c => ?_)
    rw [hA1]
    by_cases hj : j < sb
    · exact s1 i j a b (by (clear c b a e elast l1 rq eq ek k1 rp ep hA1 sz hz nb1 na1 h2 h1; lia))
    · by_cases hi : i < sb
      · have e1 := By_t' (l3 (j - sb) (by (clear hi hj c b a elast l1 rq eq ek k1 rp ep hA1 sz hz nb1 na1 hsb h2 h1; lia)) (by (clear hi hj b a e elast l1 rq eq ek k1 rp ep hA1 sz hz na1 hsb h2 h1; lia)))
        rw [show sb + (j - sb) = j by (clear e1 hi c b a e elast l1 rq eq ek k1 rp ep hA1 sz hz nb1 na1 hsb h2 h1; lia)] at e1
        have e2 := s1 i (sb - 1) a (by (clear e1 hj c b a e elast l1 rq eq ek k1 rp ep hA1 sz hz nb1 na1 hsb h2 h1; lia)) (by (clear e1 hi hj c b a e elast l1 rq eq ek k1 rp ep hA1 sz hz nb1 h2 h1; lia))
        (clear hi hj c b a e elast l1 eq ek k1 rp ep hA1 sz hz nb1 na1 hsb h2 h1; lia)
      · exact s2 i j (by (clear hj c b a e elast l1 rq eq ek k1 rp ep hA1 sz hz nb1 na1 hsb h2 h1; lia)) b c
  have e2 : ¬ n2 = 0 := fun z => e (beq_iff_eq.mpr z)
  have xsz : ((arrOf st).extract (sa + k) sb).size = sb - (sa + k) := by rw [Array.size_extract, Nat.min_eq_left (by (clear e2 e elast l1 rq eq ek k1 rp ep hA1 nb1 na1 hsb h2 h1; lia))]
  have ysz : ((arrOf st).extract sb (sb + n2)).size = n2 := by rw [Array.size_extract, Nat.min_eq_left (by (clear xsz e2 e elast rq eq ek k1 rp ep hA1 nb1 na1 hsb h2 h1; lia))]; (clear xsz e2 e elast l1 rq eq ek k1 rp ep hA1 sz hz nb1 na1 hsb h2 h1; lia)
  have xin : ∀ p ∈ ((arrOf st).extract (sa + k) sb).toList, p ∈ a₀.toList := fun p hp => harr p (by rw [ext_list] at hp; exact List.mem_of_mem_drop (List.mem_of_mem_take hp))
  have yin : ∀ p ∈ ((arrOf st).extract sb (sb + n2)).toList, p ∈ a₀.toList := fun p hp => harr p (by rw [ext_list] at hp; exact List.mem_of_mem_drop (List.mem_of_mem_take hp))
  have sx : Seg rk ((arrOf st).extract (sa + k) sb) 0 ((arrOf st).extract (sa + k) sb).size := fun i j a b c => by
    rw [xsz] at c
    rw [R_ext (by (clear a ysz xsz e2 e elast l1 rq eq ek k1 rp ep hA1 sz hz nb1 na1 hsb h2 h1; lia)) (by (clear c b a ysz xsz e2 e elast l1 rq eq ek k1 rp ep hA1 nb1 na1 hsb h2 h1; lia)), R_ext (by (clear b a ysz xsz e2 e elast l1 rq eq ek k1 rp ep hA1 sz hz nb1 na1 hsb h2 h1; lia)) (by (clear c b a ysz xsz e2 e elast l1 rq eq ek k1 rp ep hA1 nb1 na1 hsb h2 h1; lia))]
    exact s1 _ _ (by (clear c b a ysz xsz e2 e elast l1 rq eq ek k1 rp ep hA1 sz hz nb1 na1 hsb h2 h1; lia)) (by (clear c a ysz xsz e2 e elast l1 rq eq ek k1 rp ep hA1 sz hz nb1 na1 hsb h2 h1; lia)) (by (clear b a ysz xsz e2 e elast l1 rq eq ek k1 rp ep hA1 sz hz nb1 na1 h2 h1; lia))
  have sy : Seg rk ((arrOf st).extract sb (sb + n2)) 0 ((arrOf st).extract sb (sb + n2)).size := fun i j a b c => by
    rw [ysz] at c
    rw [R_ext (by (clear a ysz xsz e2 e elast l1 rq eq ek k1 rp ep hA1 sz hz nb1 na1 hsb h2 h1; lia)) (by (clear c b a ysz xsz e2 e elast rq eq ek k1 rp ep hA1 nb1 na1 hsb h2 h1; lia)), R_ext (by (clear b a ysz xsz e2 e elast l1 rq eq ek k1 rp ep hA1 sz hz nb1 na1 hsb h2 h1; lia)) (by (clear c b a ysz xsz e2 e elast rq eq ek k1 rp ep hA1 nb1 na1 hsb h2 h1; lia))]
    exact s2 _ _ (by (clear c b a ysz xsz e2 e elast l1 rq eq ek k1 rp ep hA1 sz hz nb1 na1 hsb h2 h1; lia)) (by (clear c a ysz xsz e2 e elast l1 rq eq ek k1 rp ep hA1 sz hz nb1 na1 hsb h2 h1; lia)) (by (clear b a ysz xsz e2 e elast rq eq ek k1 rp ep hA1 sz hz nb1 na1 hsb h2 h1; lia))
  have h0 : R rk ((arrOf st).extract sb (sb + n2)) 0 ≤ R rk ((arrOf st).extract (sa + k) sb) 0 := by
    rw [R_ext (by (clear ysz xsz e elast l1 rq eq ek k1 rp ep hA1 sz hz nb1 na1 hsb h2 h1; lia)) (by (clear ysz xsz e2 e elast rq eq ek k1 rp ep hA1 nb1 na1 hsb h2 h1; lia)), R_ext (by (clear ysz xsz e2 e elast l1 rq eq k1 rp ep hA1 sz hz nb1 na1 h2 h1; lia)) (by (clear ysz xsz e2 e elast l1 rq eq ek k1 rp ep hA1 nb1 na1 hsb h2 h1; lia)), Nat.add_zero, Nat.add_zero, rp]
    have := By_f' (k3 k (Nat.le_refl _) ek)
    (clear ysz xsz e2 e elast l1 rq eq ek k1 rp ep hA1 sz hz nb1 na1 hsb h2 h1; lia)
  have hl : R rk ((arrOf st).extract sb (sb + n2)) (((arrOf st).extract sb (sb + n2)).size - 1) ≤ R rk ((arrOf st).extract (sa + k) sb) (((arrOf st).extract (sa + k) sb).size - 1) := by
    rw [xsz, ysz, R_ext (by (clear h0 ysz xsz e elast l1 rq eq ek k1 rp ep hA1 sz hz nb1 na1 hsb h2 h1; lia)) (by (clear h0 ysz xsz e2 e elast rq eq ek k1 rp ep hA1 nb1 na1 hsb h2 h1; lia)), R_ext (by (clear h0 ysz xsz e2 e elast l1 rq eq k1 rp ep hA1 sz hz nb1 na1 h2 h1; lia)) (by (clear h0 ysz xsz e2 e elast l1 rq eq ek k1 rp ep hA1 nb1 na1 hsb h2 h1; lia)), show sa + k + (sb - (sa + k) - 1) = sb - 1 by (clear h0 ysz xsz e2 e elast l1 rq eq k1 rp ep hA1 sz hz nb1 na1 h2 h1; lia), rq]
    have := By_t (l2 (n2 - 1) (by (clear h0 ysz xsz e elast l1 rq eq ek k1 rp ep hA1 sz hz nb1 na1 hsb h2 h1; lia)))
    (clear h0 ysz xsz e2 e elast l1 rq eq ek k1 rp ep hA1 sz hz nb1 na1 hsb h2 h1; lia)
  have fin : ∀ r st2, Kpt st1 st2 → Mg rk ((arrOf st).extract (sa + k) sb) ((arrOf st).extract sb (sb + n2)) r → wpS (model prog w) A E s (do
      modify fun s => setArr s (List.foldl (fun a x => a.setIfInBounds (sa + k + x.snd) x.fst) (arrOf s) r.toList.zipIdx)
      let __do_lift ← get
      pure (failedOf __do_lift).isNone) Q st2 := by
    intro r st2 k2' mg
    have hA2 : arrOf st2 = arrOf st := k2'.a.trans hA1
    refine wpS_bind (wpS_modify ?_)
    refine wpS_bind (wpS_get ?_)
    have hf : failedOf (setArr st2 (List.foldl (fun a x => a.setIfInBounds (sa + k + x.snd) x.fst) (arrOf st2) r.toList.zipIdx)) = none := k2'.f.trans hB1.failed
    rw [hf]
    have rl : r.toList.length = sb - (sa + k) + n2 := by
      rw [mg.perm.length_eq, List.length_append, Array.length_toList, Array.length_toList, xsz, ysz]
    have rp' : r.toList.Perm (((arrOf st).toList.drop (sa + k)).take (sb - (sa + k) + n2)) := by
      refine mg.perm.trans (List.Perm.of_eq ?_)
      rw [ext_list, ext_list, List.take_add, List.drop_drop, show sb + n2 - sb = n2 by (clear rl hf hA2 hl h0 ysz xsz e2 e elast l1 rq eq ek k1 rp ep hA1 sz hz nb1 na1 hsb h2 h1; lia), show sa + k + (sb - (sa + k)) = sb by (clear rl hf hA2 hl h0 ysz xsz e2 e elast l1 rq eq ek rp ep hA1 sz hz nb1 na1 h2 h1; lia)]
    have get : ∀ j, (arrOf (setArr st2 (List.foldl (fun a x => a.setIfInBounds (sa + k + x.snd) x.fst) (arrOf st2) r.toList.zipIdx)))[j]? = if sa + k ≤ j ∧ j < sb + n2 then r.toList[j - (sa + k)]? else (arrOf st)[j]? := fun j => by
      show (List.foldl (fun a x => a.setIfInBounds (sa + k + x.snd) x.fst) (arrOf st2) r.toList.zipIdx)[j]? = _
      rw [hA2, put_get (sa + k) r.toList 0 (arrOf st) j (by (clear hf hA2 hl h0 ysz xsz e2 e elast rq eq ek rp ep hA1 nb1 na1 h2 h1; lia)), rl]
      by_cases c : sa + k ≤ j ∧ j < sb + n2
      · rw [if_pos c, if_pos (by (clear rl hf hA2 hl h0 ysz xsz e2 e elast l1 rq eq ek k1 rp ep hA1 sz hz nb1 na1 hsb h2 h1; lia))]; rfl
      · rw [if_neg c, if_neg (by (clear rl hf hA2 hl h0 ysz xsz e2 e elast l1 rq eq ek rp ep hA1 sz hz nb1 na1 h2 h1; lia))]
    have hB2 : SB κ a₀ pd1 (setArr st2 (List.foldl (fun a x => a.setIfInBounds (sa + k + x.snd) x.fst) (arrOf st2) r.toList.zipIdx)) := by
      refine ⟨?_, k2'.k.trans hB1.kind, hf, k2'.p.trans hB1.pend⟩
      show (List.foldl (fun a x => a.setIfInBounds (sa + k + x.snd) x.fst) (arrOf st2) r.toList.zipIdx).Perm a₀
      rw [hA2]
      exact (put_perm rl (by (clear rl hf hA2 hl h0 ysz xsz e2 e elast rq eq ek rp ep hA1 nb1 na1 h2 h1; lia)) rp').trans hB.perm
    generalize setArr st2 (List.foldl (fun a x => a.setIfInBounds (sa + k + x.snd) x.fst) (arrOf st2) r.toList.zipIdx) = st3 at get hB2 ⊢
    have out : ∀ j, ¬ (sa + k ≤ j ∧ j < sb + n2) → R rk (arrOf st3) j = R rk (arrOf st) j := fun j hj => R_congr (by rw [get j, if_neg hj])
    have mid : ∀ j, sa + k ≤ j → j < sb + n2 → ∃ j0, sa + k ≤ j0 ∧ j0 < sb + n2 ∧ R rk (arrOf st3) j = R rk (arrOf st) j0 := fun j j1 j2 => by
      have e := get j
      rw [if_pos ⟨j1, j2⟩, List.getElem?_eq_getElem (by (clear e j1 hf hA2 hl h0 ysz xsz e2 elast l1 rq eq k1 rp ep hA1 sz hz nb1 na1 h2 h1; lia))] at e
      have hm : r.toList[j - (sa + k)]'(by (clear e j1 hf hA2 hl h0 ysz xsz e2 elast l1 rq eq k1 rp ep hA1 sz hz nb1 na1 h2 h1; lia)) ∈ ((arrOf st).toList.drop (sa + k)).take (sb - (sa + k) + n2) := rp'.mem_iff.mp (List.getElem_mem _)
      obtain ⟨j0, a1, a2, a3⟩ := mem_take_drop (rk := rk) hm
      exact ⟨sa + k + j0, by (clear a3 a2 a1 e j1 hf hA2 hl h0 ysz xsz e2 elast l1 rq eq k1 rp ep hA1 sz hz nb1 na1 h2 h1; lia), by (clear a3 a2 e j1 hf hA2 hl h0 ysz xsz e2 elast l1 rq eq k1 rp ep hA1 sz hz nb1 na1 h2 h1; lia), by rw [R_some e, a3]⟩
    refine wpS_pure (h st3 hB2 (fun j hj => by rw [get j, if_neg (by (clear rl hf hA2 hl h0 ysz xsz e2 e elast rq eq ek k1 rp ep hA1 sz hz nb1 na1 hsb h2 h1; lia))]) fun i j a b c => ?_)
    by_cases i1 : i < sa + k
    · have ei := By_f (k2 (i - sa) (by (clear c b rl hf hA2 hl h0 ysz xsz e2 e elast l1 rq eq ek k1 rp ep hA1 sz hz nb1 na1 hsb h2 h1; lia)))
      rw [show sa + (i - sa) = i by (clear ei i1 c b rl hf hA2 hl h0 ysz xsz e2 e elast l1 rq eq ek k1 rp ep hA1 sz hz nb1 na1 hsb h2 h1; lia), ← rp] at ei
      rw [out i (by (clear ei c b a rl hf hA2 hl h0 ysz xsz e2 e elast l1 rq eq ek k1 rp ep hA1 sz hz nb1 na1 hsb h2 h1; lia))]
      have key : ∀ j0, sa + k ≤ j0 → j0 < sb + nb → R rk (arrOf st) i ≤ R rk (arrOf st) j0 := fun j0 b1 b2 => by
        by_cases c : j0 < sb
        · exact s1 i j0 a (by (clear c b2 ei b a rl hf hA2 hl h0 ysz xsz e2 e elast l1 rq eq ek k1 rp ep hA1 sz hz nb1 na1 hsb h2 h1; lia)) (by (clear b2 b1 ei i1 b a rl hf hA2 hl h0 ysz xsz e2 e elast l1 rq eq ek k1 rp ep hA1 sz hz nb1 na1 h2 h1; lia))
        · have := s2 sb j0 (Nat.le_refl _) (by (clear b2 b1 ei i1 b a rl hf hA2 hl h0 ysz xsz e2 e elast l1 rq eq ek k1 rp ep hA1 sz hz nb1 na1 hsb h2 h1; lia)) b2; (clear c b2 b1 i1 b a rl hf hA2 hl h0 ysz xsz e2 e elast l1 rq eq ek k1 rp ep hA1 sz hz nb1 na1 hsb h2 h1; lia)
      by_cases j1 : sa + k ≤ j ∧ j < sb + n2
      · obtain ⟨j0, b1, b2, b3⟩ := mid j j1.1 j1.2
        rw [b3]
        exact key j0 b1 (by (clear b3 b1 j1 ei i1 c b a rl hf hA2 hl h0 ysz xsz e2 e elast rq eq ek k1 rp ep hA1 sz hz nb1 na1 hsb h2 h1; lia))
      · rw [out j j1]
        by_cases j2 : j < sa + k
        · exact s1 i j a b (by (clear j1 ei i1 c b a rl hf hA2 hl h0 ysz xsz e2 e elast l1 rq eq ek rp ep hA1 sz hz nb1 na1 hsb h2 h1; lia))
        · exact key j (by (clear j1 ei i1 c b a rl hf hA2 hl h0 ysz xsz e2 e elast l1 rq eq ek k1 rp ep hA1 sz hz nb1 na1 hsb h2 h1; lia)) c
    · by_cases i2 : i < sb + n2
      · by_cases j2 : j < sb + n2
        · have e1 := get i
          have e2 := get j
          rw [if_pos ⟨by (clear e2 e1 j2 i2 c b a rl hf hA2 hl h0 ysz xsz e elast l1 rq eq ek k1 rp ep hA1 sz hz nb1 na1 hsb h2 h1; lia), i2⟩, List.getElem?_eq_getElem (by (clear e2 e1 j2 i1 c b a hf hA2 hl h0 ysz xsz e elast l1 rq eq ek k1 rp ep hA1 sz hz nb1 na1 hsb h2 h1; lia))] at e1
          rw [if_pos ⟨by (clear e2 e1 j2 i2 c a rl hf hA2 hl h0 ysz xsz e elast l1 rq eq ek k1 rp ep hA1 sz hz nb1 na1 hsb h2 h1; lia), j2⟩, List.getElem?_eq_getElem (by (clear e2 e1 i2 i1 c b a hf hA2 hl h0 ysz xsz e elast l1 rq eq ek k1 rp ep hA1 sz hz nb1 na1 hsb h2 h1; lia))] at e2
          rw [R_some e1, R_some e2]
          by_cases eij : i = j
          · subst eij; exact Nat.le_refl _
          · exact List.pairwise_iff_getElem.mp mg.srt _ _ _ _ (by (clear e2 e1 j2 i2 c a rl hf hA2 hl h0 ysz xsz e elast l1 rq eq ek k1 rp ep hA1 sz hz nb1 na1 hsb h2 h1; lia))
        · obtain ⟨i0, b1, b2, b3⟩ := mid i (by (clear j2 i2 c b a rl hf hA2 hl h0 ysz xsz e2 e elast l1 rq eq ek k1 rp ep hA1 sz hz nb1 na1 hsb h2 h1; lia)) i2
          rw [b3, out j (by (clear b3 b2 b1 i2 i1 c b a rl hf hA2 hl h0 ysz xsz e2 e elast l1 rq eq ek k1 rp ep hA1 sz hz nb1 na1 hsb h2 h1; lia))]
          by_cases c' : i0 < sb
          · have e1 := s1 i0 (sb - 1) (by (clear c' b3 b2 j2 i2 i1 c b a rl hf hA2 hl h0 ysz xsz e2 e elast l1 rq eq ek k1 rp ep hA1 sz hz nb1 na1 hsb h2 h1; lia)) (by (clear b3 b2 b1 j2 i2 i1 c b a rl hf hA2 hl h0 ysz xsz e2 e elast l1 rq eq ek k1 rp ep hA1 sz hz nb1 na1 hsb h2 h1; lia)) (by (clear c' b3 b2 b1 j2 i2 i1 c b a rl hf hA2 hl h0 ysz xsz e2 e elast l1 rq eq ek k1 rp ep hA1 sz hz nb1 h2 h1; lia))
            have e2 := By_t' (l3 (j - sb) (by (clear e1 c' b3 b2 b1 i2 i1 c b a rl hf hA2 hl h0 ysz xsz e2 e elast l1 rq eq ek k1 rp ep hA1 sz hz nb1 na1 hsb h2 h1; lia)) (by (clear e1 c' b3 b2 b1 j2 i2 i1 b a rl hf hA2 hl h0 ysz xsz e2 e elast l1 rq eq ek k1 rp ep hA1 sz hz na1 hsb h2 h1; lia)))
            rw [show sb + (j - sb) = j by (clear e2 e1 c' b3 b2 b1 i2 i1 c b a rl hf hA2 hl h0 ysz xsz e elast l1 rq eq ek k1 rp ep hA1 sz hz nb1 na1 hsb h2 h1; lia), ← rq] at e2
            (clear c' b3 b2 b1 j2 i2 i1 c b a rl hf hA2 hl h0 ysz xsz e elast l1 rq eq ek k1 rp ep hA1 sz hz nb1 na1 hsb h2 h1; lia)
          · exact s2 i0 j (by (clear b3 b2 b1 j2 i2 i1 c b a rl hf hA2 hl h0 ysz xsz e2 e elast l1 rq eq ek k1 rp ep hA1 sz hz nb1 na1 hsb h2 h1; lia)) (by (clear c' b3 b1 i2 i1 c b a rl hf hA2 hl h0 ysz xsz e2 e elast l1 rq eq ek k1 rp ep hA1 sz hz nb1 na1 hsb h2 h1; lia)) c
      · rw [out i (by (clear i1 c b a rl hf hA2 hl h0 ysz xsz e2 e elast l1 rq eq ek k1 rp ep hA1 sz hz nb1 na1 hsb h2 h1; lia)), out j (by (clear i1 c a rl hf hA2 hl h0 ysz xsz e2 e elast l1 rq eq ek k1 rp ep hA1 sz hz nb1 na1 hsb h2 h1; lia))]
        exact s2 i j (by (clear i1 c b a rl hf hA2 hl h0 ysz xsz e2 e elast l1 rq eq ek k1 rp ep hA1 sz hz nb1 na1 hsb h2 h1; lia)) b c
  refine wpS_ite (fun _ => ?_) (fun _ => ?_)
  · exact wpS_bind (wpS_mergeLo C hB1.kind xin yin (by (clear hl h0 ysz e2 e elast l1 rq eq k1 rp ep hA1 sz hz nb1 na1 h2 h1; lia)) (by (clear hl h0 xsz e2 e elast l1 rq eq k1 rp ep hA1 sz hz nb1 na1 hsb h2 h1; lia)) sx sy h0 hl fin)
  · exact wpS_bind (wpS_mergeHi C hB1.kind xin yin (by (clear hl h0 ysz e2 e elast l1 rq eq ek k1 rp ep hA1 sz hz nb1 na1 h2 h1; lia)) (by (clear hl h0 xsz e elast l1 rq eq ek k1 rp ep hA1 sz hz nb1 na1 hsb h2 h1; lia)) sx sy h0 hl fin)
end
end Tim
set_option Elab.async false
set_option linter.all false
set_option maxRecDepth 100000
set_option maxHeartbeats 4000000
namespace Tim
open PySem PyProof.Rows
section
variable {prog : Program} {w : World} {A : Around} {E : Value → Shared → Prop} {s : Shared} {κ : SortKind} {a₀ : Array Keyed} {rk : Value → Nat} {pd : Array (Nat × Nat × Nat)}
def Runs (rk : Value → Nat) (xs : Array Keyed) : List (Nat × Nat × Nat) → Nat → Nat → Prop
  | [], a, e => a = e
  | (s, n, _) :: r, a, e => s = a ∧ 1 ≤ n ∧ Seg rk xs a (a + n) ∧ Runs rk xs r (a + n) e
theorem Runs.le {xs : Array Keyed} : ∀ {l : List (Nat × Nat × Nat)} {a e : Nat}, Runs rk xs l a e → a + l.length ≤ e
  | [], a, e, h => Nat.le_of_eq h
  | (s, n, _) :: r, a, e, h => by
    have := Runs.le h.2.2.2
    have := h.2.1
    rw [List.length_cons]; lia
theorem Runs.app {xs : Array Keyed} {r : List (Nat × Nat × Nat)} : ∀ {l : List (Nat × Nat × Nat)} {a e : Nat}, Runs rk xs (l ++ r) a e ↔ ∃ m, Runs rk xs l a m ∧ Runs rk xs r m e
  | [], a, e => ⟨fun h => ⟨a, rfl, h⟩, fun ⟨m, h1, h2⟩ => by
      have h1 : a = m := h1
      subst h1; exact h2⟩
  | (s, n, _) :: l, a, e => by
    constructor
    · rintro ⟨h1, h2, h3, h4⟩
      obtain ⟨m, m1, m2⟩ := Runs.app.mp h4
      exact ⟨m, ⟨h1, h2, h3, m1⟩, m2⟩
    · rintro ⟨m, ⟨h1, h2, h3, h4⟩, m2⟩
      exact ⟨h1, h2, h3, Runs.app.mpr ⟨m, h4, m2⟩⟩
theorem Runs.congr {xs ys : Array Keyed} : ∀ {l : List (Nat × Nat × Nat)} {a e : Nat}, Runs rk xs l a e → (∀ j, a ≤ j → j < e → R rk xs j = R rk ys j) → Runs rk ys l a e
  | [], a, e, h, _ => h
  | (s, n, _) :: r, a, e, ⟨h1, h2, h3, h4⟩, g => by
    have le := Runs.le h4
    refine ⟨h1, h2, fun i j x y z => ?_, Runs.congr h4 fun j x y => g j (by (clear y le h2 h1; lia)) y⟩
    rw [← g i x (by (clear x h2 h1; lia)), ← g j (by (clear z le h2 h1; lia)) (by (clear y x h2 h1; lia))]
    exact h3 i j x y z
theorem split2 {α : Type} {l : List α} {i : Nat} (h : i + 1 < l.length) : ∃ pre p q post, l = pre ++ p :: q :: post ∧ pre.length = i := by
  refine ⟨l.take i, l[i], l[i + 1], l.drop (i + 2), ?_, by rw [List.length_take]; lia⟩
  rw [← List.drop_eq_getElem_cons, ← List.drop_eq_getElem_cons, List.take_append_drop]
theorem wpS_mergeRuns {st : SortSt} {i e : Nat} {Q : Bool → SortSt → Prop} (C : Cmp prog w A s κ a₀ rk) (hB : SB κ a₀ pd st) (hr : Runs rk (arrOf st) pd.toList 0 e) (he : e ≤ a₀.size) (hi : i + 1 < pd.size)
    (h : ∀ pd' st', SB κ a₀ pd' st' → Runs rk (arrOf st') pd'.toList 0 e → pd'.size + 1 = pd.size → (∀ j, e ≤ j → (arrOf st')[j]? = (arrOf st)[j]?) → Q true st') : wpS (model prog w) A E s (mergeAt' i) Q st := by
  obtain ⟨pre, ⟨sa, na, pw⟩, ⟨sb, nb, pw2⟩, post, el, pl⟩ := split2 (l := pd.toList) (i := i) (by rw [Array.length_toList]; exact hi)
  rw [el] at hr
  obtain ⟨m, r1, r2⟩ := Runs.app.mp hr
  obtain ⟨e1, n1, s1, e2, n2, s2, r3⟩ := r2
  subst e1
  have le3 := Runs.le r3
  have h1 : pd[i]? = some (sa, na, pw) := by rw [← Array.getElem?_toList, el, List.getElem?_append_right (by (clear le3 e2 n2 n1 el hi he; lia)), pl, Nat.sub_self]; rfl
  have h2 : pd[i + 1]? = some (sb, nb, pw2) := by rw [← Array.getElem?_toList, el, List.getElem?_append_right (by (clear h1 le3 e2 n2 n1 el hi he; lia)), pl, show i + 1 - i = 1 by (clear h1 le3 e2 n2 n1 pl el hi he; lia)]; rfl
  refine wpS_mergeAt C hB h1 h2 e2 n1 n2 (by (clear h2 h1 n2 n1 pl el hi; lia)) s1 (by rw [e2]; exact s2) fun st' hB' out seg => ?_
  have ep : ((pd.setIfInBounds i (sa, na + nb, pw)).eraseIdxIfInBounds (i + 1)).toList = pre ++ (sa, na + nb, pw) :: post := by
    rw [Array.toList_eraseIdxIfInBounds, Array.toList_setIfInBounds, el, List.set_append_right _ _ (by (clear h2 h1 le3 e2 n2 n1 el hi he; lia)), pl, Nat.sub_self]
    rw [List.eraseIdx_append_of_length_le (by (clear h2 h1 le3 e2 n2 n1 el hi he; lia)), pl, show i + 1 - i = 1 by (clear h2 h1 le3 e2 n2 n1 pl el hi he; lia)]
    rfl
  refine h _ st' hB' ?_ ?_ fun j hj => out j (.inr (by (clear ep h2 h1 n2 n1 pl el hi he; lia)))
  · rw [ep]
    refine Runs.app.mpr ⟨sa, r1.congr fun j _ j2 => R_congr (out j (.inl j2)).symm, rfl, by (clear ep h2 h1 le3 e2 n2 pl el hi he; lia), ?_, ?_⟩
    · rw [show sa + (na + nb) = sb + nb by (clear ep h2 h1 le3 n2 n1 pl el hi he; lia)]; exact seg
    · rw [← Nat.add_assoc]
      exact r3.congr fun j j1 j2 => R_congr (out j (.inr (by (clear j2 ep h2 h1 le3 n2 n1 pl el hi he; lia)))).symm
  · rw [← Array.length_toList, ep, ← Array.length_toList, el]
    simp only [List.length_append, List.length_cons]
    (clear ep h2 h1 le3 e2 n2 n1 pl el hi he; lia)
theorem Runs.modify {xs : Array Keyed} {f : Nat × Nat × Nat → Nat × Nat × Nat} (hf : ∀ x, (f x).1 = x.1 ∧ (f x).2.1 = x.2.1) (l : List (Nat × Nat × Nat)) : ∀ (i a e : Nat), Runs rk xs l a e → Runs rk xs (l.modify i f) a e := by
  induction l with
  | nil => intro i a e h; cases i <;> exact h
  | cons t r ih =>
    obtain ⟨s, n, p⟩ := t
    intro i a e h
    obtain ⟨h1, h2, h3, h4⟩ := h
    cases i with
    | zero =>
      rw [List.modify_zero_cons]
      have e2 := hf (s, n, p)
      rcases hfp : f (s, n, p) with ⟨s', n', p'⟩
      rw [hfp] at e2
      obtain ⟨q1, q2⟩ := e2
      have q1 : s' = s := q1
      have q2 : n' = n := q2
      rw [q1, q2]
      exact ⟨h1, h2, h3, h4⟩
    | succ i =>
      rw [List.modify_succ_cons]
      exact ⟨h1, h2, h3, ih i _ _ h4⟩
theorem wpS_sortRuns {st : SortSt} {Q : Unit → SortSt → Prop} (C : Cmp prog w A s κ a₀ rk) (hB : SB κ a₀ #[] st) (h2 : 2 ≤ a₀.size)
    (h : ∀ st', (arrOf st').Perm a₀ → failedOf st' = none → Seg rk (arrOf st') 0 a₀.size → Q () st') : wpS (model prog w) A E s sortRuns' Q st := by
  rw [sortRuns'_eq]
  refine wpS_bind (wpS_get ?_)
  dsimp only
  simp only [hB.size]
  generalize minRun' a₀.size a₀.size 0 = mr
  refine wpS_bind (wpS_mono (wpS_forRange (I := fun x c st' => ∃ lo pd, c = (none, lo) ∧ x ≤ lo ∧ lo ≤ a₀.size ∧ SB κ a₀ pd st' ∧ Runs rk (arrOf st') pd.toList 0 lo)
    (Q := fun c st' => ∃ pd, c = (none, a₀.size) ∧ SB κ a₀ pd st' ∧ Runs rk (arrOf st') pd.toList 0 a₀.size) ?step ?fin ⟨0, #[], rfl, by (clear h2; lia), by (clear h2; lia), hB, rfl⟩) ?post)
  case fin =>
    rintro c st' ⟨lo, pd, rfl, x1, x2, hB', hr⟩
    have : lo = a₀.size := by (clear h2; lia)
    subst this
    exact ⟨pd, rfl, hB', hr⟩
  case step =>
    rintro x c st' _ hx ⟨lo, pd, rfl, x1, x2, hB', hr⟩
    dsimp only
    refine wpS_ite (fun ge => ?_) (fun ge => ?_)
    · have : lo = a₀.size := by (clear x1 hx h2; lia)
      subst this
      exact wpS_pure ⟨pd, rfl, hB', hr⟩
    refine wpS_bind (wpS_countRun C (by (clear ge x1 hx h2; lia)) (by (clear x2 x1 hx h2; lia)) hB' fun m st2 hB2 kb2 m1 m2 hs2 => ?_)
    dsimp only
    have hr2 := hr.congr (ys := arrOf st2) fun j _ j2 => R_congr (kb2 j j2).symm
    apply wpS_ite
    case' h1 =>
      intro lt
      refine wpS_bind (wpS_lift (wpAny_rule ⟨rfl, ?_⟩))
      refine wpS_bind (wpS_binarySort C (by (clear lt m2 m1 ge x1 hx h2; lia)) (by (clear m1 ge x2 x1 hx h2; lia)) hB2 hs2 fun st3 hB3 kb3 hs3 => ?_)
      simp only [Bool.not_true, Bool.false_eq_true, if_false]
      have hr3 := hr2.congr (ys := arrOf st3) fun j _ j2 => R_congr (kb3 j j2).symm
      have n1 : 1 ≤ min (a₀.size - lo) mr := by (clear m2 m1 x2 x1 hx h2; lia)
      have n2 : min (a₀.size - lo) mr ≤ a₀.size - lo := by (clear n1 lt m2 m1 ge x2 x1 hx h2; lia)
      generalize min (a₀.size - lo) mr = n at hs3 n1 n2 ⊢
    case' h2 =>
      intro lt
      have hr3 := hr2
      have hB3 := hB2
      have hs3 := hs2
      have n1 := m1
      have n2 := m2
      revert hr3 hB3 hs3
      generalize st2 = st3
      revert n1 n2
      generalize m = n
      intro n1 n2 hr3 hB3 hs3
    all_goals
      refine wpS_bind (wpS_get ?_)
      have done : ∀ pd4 st4, SB κ a₀ pd4 st4 → Runs rk (arrOf st4) pd4.toList 0 lo → Seg rk (arrOf st4) lo (lo + n) → wpS (model prog w) A E s (do
            modify fun s => setPending s ((pendingOf s).push (lo, n, 0))
            pure (ForInStep.yield ((none : Option Unit), lo + n))) (fun r st' => match r with
              | ForInStep.done c' => ∃ pd, c' = (none, a₀.size) ∧ SB κ a₀ pd st' ∧ Runs rk (arrOf st') pd.toList 0 a₀.size
              | ForInStep.yield c' => ∃ lo pd, c' = (none, lo) ∧ x + 1 ≤ lo ∧ lo ≤ a₀.size ∧ SB κ a₀ pd st' ∧ Runs rk (arrOf st') pd.toList 0 lo) st4 := by
        intro pd4 st4 hB4 hr4 hs4
        refine wpS_bind (wpS_modify (wpS_pure ⟨lo + n, pd4.push (lo, n, 0), rfl, by (clear n2 lt m2 m1 ge x2 hx h2; lia), by (clear n1 lt m2 m1 ge x1 hx h2; lia), ⟨hB4.perm, hB4.kind, hB4.failed, by show (pendingOf st4).push _ = _; rw [hB4.pend]⟩, ?_⟩))
        rw [Array.toList_push]
        exact Runs.app.mpr ⟨lo, hr4, rfl, n1, hs4, rfl⟩
      cases hb : (pendingOf st3).back? with
      | none => exact done _ _ hB3 hr3 hs3
      | some t =>
        obtain ⟨s1, n1', pw⟩ := t
        dsimp only
        generalize power' a₀.size (2 * s1 + n1') (2 * s1 + n1' + n1' + n) a₀.size = pwr
        refine wpS_bind (wpS_mono (wpS_forRange (I := fun y c st4 => ∃ pd4, c = (none, ()) ∧ SB κ a₀ pd4 st4 ∧ Runs rk (arrOf st4) pd4.toList 0 lo ∧ Seg rk (arrOf st4) lo (lo + n))
          (Q := fun c st4 => ∃ pd4, c = (none, ()) ∧ SB κ a₀ pd4 st4 ∧ Runs rk (arrOf st4) pd4.toList 0 lo ∧ Seg rk (arrOf st4) lo (lo + n)) ?_ (fun _ _ z => z) ⟨_, rfl, hB3, hr3, hs3⟩) ?_)
        · rintro y c st4 _ hy ⟨pd4, rfl, hB4, hr4, hs4⟩
          refine wpS_bind (wpS_get ?_)
          rw [hB4.pend]
          cases hg : (if pd4.size > 1 then pd4[pd4.size - 2]? else none) with
          | none => exact wpS_pure ⟨pd4, rfl, hB4, hr4, hs4⟩
          | some t =>
            obtain ⟨f1, f2, older⟩ := t
            dsimp only
            have gt : pd4.size > 1 := by
              by_cases g : pd4.size > 1
              · exact g
              · rw [if_neg g] at hg; cases hg
            refine wpS_ite (fun _ => ?_) (fun _ => ?_)
            · exact wpS_pure ⟨pd4, rfl, hB4, hr4, hs4⟩
            · refine wpS_bind (wpS_mergeRuns C hB4 hr4 x2 (by (clear hg hy hb n2 n1 lt m2 m1 ge x2 x1 hx h2; lia)) fun pd5 st5 hB5 hr5 _ out5 => ?_)
              simp only [Bool.not_true, Bool.false_eq_true, if_false]
              refine wpS_pure ⟨pd5, rfl, hB5, hr5, fun i j a b c => ?_⟩
              rw [R_congr (out5 i a), R_congr (out5 j (by (clear c gt hg hy hb n2 n1 lt m2 m1 ge x2 x1 hx h2; lia)))]
              exact hs4 i j a b c
        · rintro c st4 ⟨pd4, rfl, hB4, hr4, hs4⟩
          dsimp only
          refine wpS_bind (wpS_modify ?_)
          refine done _ _ ⟨hB4.perm, hB4.kind, hB4.failed, rfl⟩ ?_ hs4
          rw [← hB4.pend] at hr4
          rw [Array.toList_modify]
          refine Runs.modify (fun x => ?_) _ _ _ _ hr4
          exact ⟨rfl, rfl⟩
  case post =>
    rintro c st' ⟨pd, rfl, hB', hr⟩
    dsimp only
    have le := Runs.le hr
    rw [Array.length_toList] at le
    refine wpS_bind (wpS_mono (wpS_forRange (I := fun y c st4 => ∃ pd4, c = (none, ()) ∧ SB κ a₀ pd4 st4 ∧ Runs rk (arrOf st4) pd4.toList 0 a₀.size ∧ pd4.size ≤ max 1 (a₀.size - y))
      (Q := fun c st4 => ∃ pd4, c = (none, ()) ∧ SB κ a₀ pd4 st4 ∧ Runs rk (arrOf st4) pd4.toList 0 a₀.size ∧ pd4.size ≤ 1) ?_ ?_ ⟨pd, rfl, hB', hr, by (clear h2; lia)⟩) ?_)
    · rintro y c st4 _ hy ⟨pd4, rfl, hB4, hr4, le4⟩
      refine wpS_bind (wpS_get ?_)
      rw [hB4.pend]
      refine wpS_ite (fun l1 => ?_) (fun l1 => ?_)
      · exact wpS_pure ⟨pd4, rfl, hB4, hr4, l1⟩
      · have hix : ∀ (c : Prop) [Decidable c], (if c then pd4.size - 2 - 1 else pd4.size - 2) + 1 < pd4.size := by
          intro c _
          split <;> (clear le4 hy le h2; lia)
        refine wpS_bind (wpS_mergeRuns C hB4 hr4 (Nat.le_refl _) (hix _) fun pd5 st5 hB5 hr5 z5 _ => ?_)
        simp only [Bool.not_true, Bool.false_eq_true, if_false]
        exact wpS_pure ⟨pd5, rfl, hB5, hr5, by (clear l1 hy le h2; lia)⟩
    · rintro c st4 ⟨pd4, rfl, hB4, hr4, le4⟩
      exact ⟨pd4, rfl, hB4, hr4, by (clear le h2; lia)⟩
    · rintro c st4 ⟨pd4, rfl, hB4, hr4, le4⟩
      refine wpS_pure (h st4 hB4.perm hB4.failed ?_)
      have ll : pd4.toList.length ≤ 1 := by rw [Array.length_toList]; exact le4
      match hl : pd4.toList, ll, hr4 with
      | [], _, hr4 => have : 0 = a₀.size := hr4; (clear hl ll le4 le; lia)
      | [(s, n, p)], _, hr4 =>
        obtain ⟨_, _, hs, e⟩ := hr4
        have e : 0 + n = a₀.size := e
        rw [e] at hs
        exact hs
end
end Tim
set_option Elab.async false
set_option linter.all false
set_option maxRecDepth 100000
set_option maxHeartbeats 4000000
namespace Tim
open PySem PyProof.Rows
section
variable {prog : Program} {w : World} {A : Around} {E : Value → Shared → Prop} {s : Shared} {κ : SortKind} {rk : Value → Nat}
theorem out_of {vs : List Value} {xs : Array Keyed} (hp : xs.Perm (pairsOf vs)) (hs : Seg rk xs 0 (pairsOf vs).size) : (xs.map (·.2)).toList.Perm vs ∧ (xs.map (·.2)).toList.Pairwise (fun x y => rk x ≤ rk y) := by
  have hl : xs.toList.Perm (vs.zip vs) := by rw [← pairsOf_toList]; exact Array.perm_iff_toList_perm.mp hp
  have hmem : ∀ p, p ∈ xs.toList → p.1 = p.2 := fun p hp' => (mem_zip_self (hl.mem_iff.mp hp')).1
  have e : (xs.map (·.2)).toList = xs.toList.map (·.1) := by
    rw [Array.toList_map]; exact List.map_congr_left fun p hp' => (hmem p hp').symm
  rw [e]
  constructor
  · have := hl.map Prod.fst
    rwa [List.map_fst_zip (Nat.le_refl _)] at this
  · rw [List.pairwise_map, List.pairwise_iff_getElem]
    intro i j hi hj hij
    rw [Array.length_toList] at hi hj
    have := hs i j (Nat.zero_le _) (Nat.le_of_lt hij) (by rw [← hp.size_eq]; exact hj)
    rw [R_get hi, R_get hj] at this
    simpa using this
theorem list_sort_any {a : Addr} {vs : List Value} {n : Nat} {P : PySem.Fin → Shared → Prop} (ho : s.heap.get? a = some (seqObj "list" vs.toArray n)) (hz : vs.length ≤ sizeLine)
    (hk : 2 ≤ vs.length → ∀ h' : Heap, (∀ b o, b ≠ a → s.heap.get? b = some o → h'.get? b = some o) → (∀ (Q : SortKind → Shared → Prop) (E : Value → Shared → Prop), Q κ { s with heap := h' } → wpAny (model prog w) A (keyKind' vs.toArray) Q E { s with heap := h' }) ∧ Cmp prog w A { s with heap := h' } κ (pairsOf vs) rk)
    (h : ∀ out : List Value, out.Perm vs → out.Pairwise (fun x y => rk x ≤ rk y) → P (.done (.ret .none)) { s with heap := sortedHeap s.heap a vs out.toArray }) :
    wpAny (model prog w) A (Builtin.«list.sort» ⟨[.ref a], []⟩) P E s := by
  rw [list_sort_plain]
  have ha : a < s.heap.objs.size := Heap.lt_size ho
  refine wpAny_bind (listItems_at ho rfl ?_)
  refine wpAny_bind (listUpdate_at ho rfl ?_ (by rw [List.size_toArray]; exact hz) (Nat.zero_le _))
  obtain ⟨e1, ho1⟩ : ∃ e1, (s.heap.update a (Obj.mapSeq fun _ => #[])).get? a = some (seqObj "list" #[] e1) := ⟨_, get?_update_seq ho (fun _ => #[])⟩
  refine wpAny_bind (seqEpoch_at ho1 rfl ?_)
  refine wpAny_bind (wpAny_newTuple ?_ (by show vs.length ≤ _; exact hz))
  refine wpAny_bind (wpAny_newList ?_ (Nat.zero_le _))
  refine wpAny_holding ?_
  have keep : ∀ b o, b ≠ a → s.heap.get? b = some o → (((s.heap.update a (Obj.mapSeq fun _ => #[])).push (seqObj "tuple" vs.toArray 0)).push (seqObj "list" #[] 0)).get? b = some o := fun b o nb e => by
    refine Heap.get?_push_of_some _ (Heap.get?_push_of_some _ ?_)
    rw [Heap.get?_update_ne _ _ _ _ nb]
    exact e
  have ho6 : (((s.heap.update a (Obj.mapSeq fun _ => #[])).push (seqObj "tuple" vs.toArray 0)).push (seqObj "list" #[] 0)).get? a = some (seqObj "list" #[] e1) := Heap.get?_push_of_some _ (Heap.get?_push_of_some _ ho1)
  show wpAny (model prog w) A _ P E { s with heap := ((s.heap.update a (Obj.mapSeq fun _ => #[])).push (seqObj "tuple" vs.toArray 0)).push (seqObj "list" #[] 0) }
  dsimp only
  have hsz : vs.toArray.size = vs.length := by simp
  have fin : ∀ st' : SortSt, (arrOf st').Perm (pairsOf vs) → Seg rk (arrOf st') 0 (pairsOf vs).size →
      P (.done (.ret .none)) { s with heap := sortedHeap s.heap a vs ((arrOf st').map (·.2)) } := by
    intro st' hp hs
    obtain ⟨h1, h2⟩ := out_of hp hs
    have := h _ h1 h2
    rwa [Array.toArray_toList] at this
  by_cases h2 : vs.toArray.size < 2
  · rw [if_pos h2, if_pos h2]
    refine wpAny_bind (wpAny_pure ?_)
    rw [StateT.run_pure]
    refine wpAny_bind (wpAny_pure ?_)
    dsimp only
    refine wpAny_bind (seqEpoch_at ho6 rfl ?_)
    refine wpAny_bind (listUpdate_at ho6 rfl ?_ (Nat.zero_le _) (by rw [Array.size_map]; show (pairsOf vs).size ≤ _; rw [pairsOf_size]; omega))
    simp only [bne_self_eq_false, Bool.false_eq_true, if_false]
    refine wpAny_pure (fin (SortSt.mk' general' (vs.toArray.zip vs.toArray) #[] 7 none) (Array.Perm.refl _) ?_)
    intro i j _ hij hj
    have : i = j := by rw [pairsOf_size] at hj; omega
    subst this; exact Nat.le_refl _
  · rw [if_neg h2, if_neg h2]
    obtain ⟨kk, kc⟩ := hk (by omega) _ keep
    refine wpAny_bind (kk _ _ ?_)
    refine wpAny_bind (wpAny_mono (wpS_sortRuns (a₀ := pairsOf vs) (rk := rk) (st := SortSt.mk' κ (vs.toArray.zip vs.toArray) #[] 7 none)
      (Q := fun _ st' => (arrOf st').Perm (pairsOf vs) ∧ failedOf st' = none ∧ Seg rk (arrOf st') 0 (pairsOf vs).size)
      kc ⟨Array.Perm.refl _, rfl, rfl, rfl⟩ (by rw [pairsOf_size]; omega) fun st' a1 a2 a3 => ⟨a1, a2, a3⟩) ?_ fun _ _ e => e)
    rintro ⟨⟨⟩, st'⟩ s' ⟨rfl, hp, hf, hs⟩
    dsimp only
    refine wpAny_bind (seqEpoch_at ho6 rfl ?_)
    refine wpAny_bind (listUpdate_at ho6 rfl ?_ (Nat.zero_le _) (Nat.le_trans (Nat.le_of_eq ((Array.size_map ..).trans (hp.size_eq.trans (pairsOf_size _)))) (Nat.le_succ_of_le hz)))
    rw [hf]
    simp only [bne_self_eq_false, Bool.false_eq_true, if_false]
    exact wpAny_pure (fin st' hp hs)
end
/-! ### ranks out of an order -/
section
theorem countP_lt {α : Type} {p q : α → Bool} {u : α} : ∀ {l : List α}, u ∈ l → q u = true → p u = false → (∀ x, p x = true → q x = true) → l.countP p < l.countP q
  | [], hm, _, _, _ => by simp at hm
  | x :: l, hm, hq, hp, hi => by
    have mono : l.countP p ≤ l.countP q := List.countP_mono_left fun x _ => hi x
    rw [List.countP_cons, List.countP_cons]
    rcases List.mem_cons.mp hm with rfl | hm
    · rw [hq, hp]; simp; omega
    · have := countP_lt hm hq hp hi
      cases e : p x with
      | true => rw [hi x e]; simp; omega
      | false => simp; omega
/-- the rank of a value among the values vs by the order L -/
def rankBy {α : Type} (L : α → α → Bool) (vs : List α) (v : α) : Nat := vs.countP fun u => L u v
structure Swo {α : Type} (L : α → α → Bool) : Prop where
  irr : ∀ a, L a a = false
  tr : ∀ a b c, L a b = true → L b c = true → L a c = true
  ntr : ∀ a b c, L a b = false → L b c = false → L a c = false
theorem rank_lt {α : Type} {L : α → α → Bool} (S : Swo L) {vs : List α} {u v : α} (hu : u ∈ vs) : decide (rankBy L vs u < rankBy L vs v) = L u v := by
  cases e : L u v with
  | true => exact decide_eq_true (countP_lt hu e (S.irr u) fun x hx => S.tr x u v hx e)
  | false =>
    refine decide_eq_false fun z => ?_
    have : rankBy L vs v ≤ rankBy L vs u := List.countP_mono_left fun x _ hx => by
      cases e' : L x u with
      | true => rfl
      | false => rw [S.ntr x u v e' e] at hx; cases hx
    omega
theorem rank_le {α : Type} {L : α → α → Bool} (S : Swo L) {vs : List α} {u v : α} (hv : v ∈ vs) (h : rankBy L vs u ≤ rankBy L vs v) : L v u = false := by
  have := rank_lt S (u := v) (v := u) hv
  rw [← this]
  exact decide_eq_false (by omega)
/-- lists of numbers as tuples are compared -/
def lexB : List Int → List Int → Bool
  | _, [] => false
  | [], _ :: _ => true
  | a :: as, b :: bs => if a = b then lexB as bs else decide (a < b)
theorem lexB_nil (a : List Int) : lexB a [] = false := by cases a <;> rfl
theorem lexB_irr : ∀ a, lexB a a = false
  | [] => rfl
  | a :: as => by unfold lexB; rw [if_pos rfl]; exact lexB_irr as
theorem lexB_tr : ∀ a b c, lexB a b = true → lexB b c = true → lexB a c = true
  | a, [], _, h, _ => by rw [lexB_nil] at h; cases h
  | [], _ :: _, [], _, h => by cases h
  | [], _ :: _, _ :: _, _, _ => rfl
  | _ :: _, _ :: _, [], _, h => by cases h
  | a :: as, b :: bs, c :: cs, h1, h2 => by
    unfold lexB at h1 h2 ⊢
    by_cases e1 : a = b
    · rw [if_pos e1] at h1
      by_cases e2 : b = c
      · rw [if_pos e2] at h2
        rw [if_pos (e1.trans e2)]
        exact lexB_tr as bs cs h1 h2
      · rw [if_neg e2] at h2
        rw [if_neg (e1 ▸ e2), e1]; exact h2
    · rw [if_neg e1] at h1
      have h1 := of_decide_eq_true h1
      by_cases e2 : b = c
      · rw [← e2, if_neg e1]; exact decide_eq_true h1
      · rw [if_neg e2] at h2
        have h2 := of_decide_eq_true h2
        rw [if_neg (by omega)]; exact decide_eq_true (by omega)
theorem lexB_ntr : ∀ a b c, lexB a b = false → lexB b c = false → lexB a c = false
  | a, _, [], _, _ => lexB_nil a
  | [], [], _ :: _, _, h => by cases h
  | [], _ :: _, _ :: _, h, _ => by cases h
  | _ :: _, [], _ :: _, _, h => by cases h
  | a :: as, b :: bs, c :: cs, h1, h2 => by
    unfold lexB at h1 h2 ⊢
    by_cases e1 : a = b
    · rw [if_pos e1] at h1
      by_cases e2 : b = c
      · rw [if_pos e2] at h2
        rw [if_pos (e1.trans e2)]
        exact lexB_ntr as bs cs h1 h2
      · rw [if_neg e2] at h2
        rw [if_neg (e1 ▸ e2), e1]; exact h2
    · rw [if_neg e1] at h1
      have h1 := of_decide_eq_false h1
      by_cases e2 : b = c
      · rw [← e2, if_neg e1]; exact decide_eq_false h1
      · rw [if_neg e2] at h2
        have h2 := of_decide_eq_false h2
        rw [if_neg (by omega)]; exact decide_eq_false (by omega)
theorem swo_key {α : Type} (key : α → List Int) : Swo fun a b => lexB (key a) (key b) := ⟨fun a => lexB_irr _, fun a b c => lexB_tr _ _ _, fun a b c => lexB_ntr _ _ _⟩
end
end Tim
set_option Elab.async false
set_option linter.all false
set_option maxRecDepth 100000
set_option maxHeartbeats 4000000
namespace L2
open PySem PySem.Spec PyProof.Rows PySem.W
section
variable {X : Cx}
/-- what a value is sorted by: a number, or a tuple's numbers -/
def keyOf (h : Heap) : Value → List Int
  | .int n _ => [n]
  | .ref a => match h.get? a with
    | some o => match o.data with
      | .seq xs _ => xs.toList.map numOf
      | _ => []
    | none => []
  | _ => []
theorem lex_fin {prog : Program} {w : World} {A : Around} {s : Shared} {Q : Bool → Shared → Prop} : ∀ (xs ys : List Value) (ns ms : List Int) (i : Nat), IntsAre xs ns → IntsAre ys ms → ∀ (fin : Bool), (ns.length = ms.length → fin = false) → ns.length = ms.length → Q (Tim.lexB ns ms) s → KatLex prog w A true fin Q (xs.zip ys) i s
  | _, _, [], [], i, .nil, .nil, fin, hf, _, h => by
    show Q fin s
    rw [hf rfl]
    exact h
  | _, _, _ :: _, [], _, _, _, _, _, hl, _ => by cases hl
  | _, _, [], _ :: _, _, _, _, _, _, hl, _ => by cases hl
  | _, _, n :: ns, m :: ms, i, .cons _ t hx, .cons _ u hy, fin, hf, hl, h => by
    rw [List.zip_cons_cons]
    refine kat_cons (wpAny_eqBool_int ?_)
    have hl' : ns.length = ms.length := by simpa using hl
    by_cases e : n = m
    · subst e
      rw [show (n == n) = true by simp]
      refine kat_yes (lex_fin _ _ ns ms (i + 1) hx hy fin (fun z => hf (by simpa using z)) hl' ?_)
      unfold Tim.lexB at h
      rwa [if_pos rfl] at h
    · rw [show (n == m) = false by simpa using e]
      unfold Tim.lexB at h
      rw [if_neg e] at h
      refine kat_no ?_
      cases (true && i == 0) with
      | true => exact oneLt_int h
      | false => exact kat_one _ _ (lt_int (show W.BoolBack Q (.bool (decide (n < m))) s from h))
theorem keyOf_tup {h : Heap} {a : Addr} {its : List Value} {ns : List Int} (ht : IsTup h a its.toArray) (hi : IntsAre its ns) : keyOf h (.ref a) = ns := by
  obtain ⟨o, e, _, n, d⟩ := ht
  show (match h.get? a with
    | some o => match o.data with
      | .seq xs _ => xs.toList.map numOf
      | _ => []
    | none => []) = ns
  rw [e]
  dsimp only
  rw [d]
  dsimp only
  exact hi.nums
def Tups1 (h : Heap) (k : Nat) (vs : List Value) : Prop := ∀ v ∈ vs, ∃ a its ns, v = .ref a ∧ IsTup h a its.toArray ∧ IntsAre its ns ∧ ns.length = k
theorem tups_cmp {prog : Program} {w : World} {A : Around} {s : Shared} {vs : List Value} {k : Nat} {h0 : Heap} (T : Tups1 h0 k vs) (kp : ∀ b o, h0.get? b = some o → s.heap.get? b = some o) :
    Tim.Cmp prog w A s (tuples' true) (pairsOf vs) (Tim.rankBy (fun a b => Tim.lexB (keyOf h0 a) (keyOf h0 b)) vs) := by
  refine ⟨fun p hp q hq E Q h => ?_⟩
  rw [pairsOf_toList] at hp hq
  obtain ⟨_, mp⟩ := mem_zip_self hp
  obtain ⟨_, mq⟩ := mem_zip_self hq
  rw [Tim.rank_lt (Tim.swo_key (keyOf h0)) mp] at h
  obtain ⟨a, its, ns, ep, ta, ia, la⟩ := T _ mp
  obtain ⟨b, jts, ms, eq, tb, ib, lb⟩ := T _ mq
  rw [ep, eq] at h ⊢
  rw [keyOf_tup ta ia, keyOf_tup tb ib] at h
  obtain ⟨oa, ea, ca, n1, da⟩ := ta
  obtain ⟨ob, eb, cb, n2, db⟩ := tb
  have l1 : its.length = ns.length := ia.length
  have l2 : jts.length = ms.length := ib.length
  refine kat_lt (kp _ _ ea) da (kp _ _ eb) db ?_
  have e1 : its.toArray.toList = its := by simp
  have e2 : jts.toArray.toList = jts := by simp
  rw [e1, e2]
  exact lex_fin its jts ns ms 0 ia ib _ (fun z => decide_eq_false (by rw [List.size_toArray, List.size_toArray]; omega)) (by omega) h
theorem tups_firsts {h0 h1 : Heap} {k : Nat} (hk : 1 ≤ k) (kp : ∀ b o, h0.get? b = some o → h1.get? b = some o) : ∀ {vs : List Value}, Tups1 h0 k vs → ∃ fs, KatTups h1 vs fs ∧ fs.length = vs.length ∧ ∀ f ∈ fs, ∃ n t, f = Value.int n t
  | [], _ => ⟨[], trivial, rfl, fun _ z => absurd z (by simp)⟩
  | v :: vs, T => by
    obtain ⟨fs, t1, t2, t3⟩ := tups_firsts hk kp (vs := vs) fun u hu => T u (List.mem_cons_of_mem _ hu)
    obtain ⟨a, its, ns, rfl, ⟨o, e, c, n, d⟩, ia, la⟩ := T v (List.mem_cons_self ..)
    match its, ns, ia, la, d with
    | _, _, .nil, la, d => simp at la; omega
    | _, _, .cons m t r, la, d =>
      refine ⟨_ :: fs, KatTups.cons (kp _ _ e) c d rfl t1, by simp [t2], fun f hf => ?_⟩
      rcases List.mem_cons.mp hf with rfl | hf
      · exact ⟨_, _, rfl⟩
      · exact t3 f hf
theorem tups_kind {prog : Program} {w : World} {A : Around} {s : Shared} {vs : List Value} {k : Nat} {h0 : Heap} {Q : SortKind → Shared → Prop} {E : Value → Shared → Prop} (hk : 1 ≤ k) (T : Tups1 h0 k vs) (hv : 2 ≤ vs.length) (kp : ∀ b o, h0.get? b = some o → s.heap.get? b = some o)
    (h : Q (tuples' true) s) : wpAny (model prog w) A (keyKind' vs.toArray) Q E s := by
  obtain ⟨fs, t1, t2, t3⟩ := tups_firsts hk kp T
  refine kat_kind (T := .type "int") t1 (by omega) (fun v hv => ?_) rfl h
  obtain ⟨n, t, rfl⟩ := t3 v hv
  exact .now
theorem vals_perm {ys : List V} {us out : List Value} (r : Vals ys us) (p : out.Perm us) : ∃ zs, Vals zs out ∧ zs.Perm ys := by
  induction p generalizing ys with
  | nil => cases r; exact ⟨[], .nil, .refl _⟩
  | cons x p ih =>
    cases r with
    | cons rx rt =>
      obtain ⟨zs, z1, z2⟩ := ih rt
      exact ⟨_ :: zs, .cons rx z1, .cons _ z2⟩
  | swap x y l =>
    cases r with
    | cons rx rt =>
      cases rt with
      | cons ry rl => exact ⟨_, .cons ry (.cons rx rl), .swap _ _ _⟩
  | trans p q ih1 ih2 =>
    obtain ⟨zs, z1, z2⟩ := ih2 r
    obtain ⟨ws, w1, w2⟩ := ih1 z1
    exact ⟨ws, w1, w2.trans z2⟩
theorem ints_vals : ∀ {ns : List Int} {vs : List Value}, Vals (ns.map V.int) vs → IntsAre vs ns
  | [], _, .nil => .nil
  | n :: ns, _, .cons ⟨t, e⟩ r => by subst e; exact .cons n t (ints_vals r)
theorem vals_pair {R : Value → Value → Prop} {S : V → V → Prop} (hRS : ∀ x y u v, RelV x u → RelV y v → R u v → S x y) : ∀ {zs : List V} {out : List Value}, Vals zs out → out.Pairwise R → zs.Pairwise S
  | _, _, .nil, _ => .nil
  | _, _, .cons rx rt, p => by
    rw [List.pairwise_cons] at p
    refine .cons (fun y hy => ?_) (vals_pair hRS rt p.2)
    obtain ⟨i, hi, e⟩ := List.getElem_of_mem hy
    obtain ⟨v, hv, ry⟩ := Vals.get rt (i := i) (x := y) (by rw [List.getElem?_eq_getElem hi, e])
    exact hRS _ _ _ _ rx ry (p.1 v (List.mem_of_getElem? hv))
end
end L2
set_option Elab.async false
set_option linter.all false
set_option maxRecDepth 100000
set_option maxHeartbeats 4000000
namespace L2
open PySem PySem.Spec PyProof.Rows
/-! ### the keys of any dict, one by one: the entries as they stand, whatever the keys are -/
section
variable {prog : Program} {w : World} {A : Around} {E : Value → Shared → Prop} {s : Shared} {it d : Addr} {ep : Nat} {od : Obj} {es : Array DictEntry}
theorem keys_begin {Q : Value → Shared → Prop} (nsm : (d == sysModules) = false) (ho : s.heap.get? d = some od) (hx : od.ExactDict) (he : od.data = .dict es ep)
    (k : Q (.ref s.heap.objs.size) { s with heap := s.heap.push { cls := .type "dict_keyiterator", data := .fields #[.ref d, .int 0 0, .int es.size 0, .int ep 0] } }) : wpAny (model prog w) A (pyIter (.ref d)) Q E s := by
  have ty : s.TypeIs (.ref d) "dict" := ⟨od, ho, hx.1⟩
  refine wpAny_pyIter_slot ty F.slot_dict_iter (wpAny_call_entry F.slot_dict_iter ty F.entry_dict_iter (by
    unfold Builtin.«dict.__iter__» Builtin.Dict.dictSlotNone; refine wpAny_bind (wpAny_bind (wpAny_notOrdered_dict ty ?_))
    show wpAny _ _ (pure (Value.ref d)) _ _ s; refine wpAny_pure ?_
    show wpAny _ _ (Builtin.Dict.showsAll d >>= _) _ _ s; unfold Builtin.Dict.showsAll; rw [nsm]; rw [if_neg Bool.false_ne_true]
    refine wpAny_bind (wpAny_pure (wpAny_bind (wpAny_dictEntries ho he (wpAny_bind (wpAny_dictEpoch ho he (wpAny_bind (wpAny_newObj_type (wpAny_pure ?_))))))))
    exact ⟨_, rfl, "dict_keyiterator", _, ⟨_, Heap.get?_push_size _ rfl, rfl⟩, F.slot_dict_keyiterator_next.lookup, by simpa [rawInt] using k⟩) (F.args_dict_iter_1 _))
/-- the walk's step, as far as it is one for all: the iterator's fields, the dict's entries -/
theorem keys_item {i : Nat} {Q : Option Value → Shared → Prop} (st : s.heap.IsKeyIter it d i es.size ep) (ho : s.heap.get? d = some od) (he : od.data = .dict es ep) (hi : i < es.size)
    (k : ∀ h', h'.IsKeyIter it d (i + 1) es.size ep → Heap.SameBut it s.heap h' → Q (some es[i].key) { s with heap := h' }) : wpAny (model prog w) A (pyNext (.ref it)) Q E s := by
  obtain ⟨oi, hoi, ci, di⟩ := id st
  have ty := st.typeIs
  have nown : Builtin.Dict_items.ownsTuple "dict_keyiterator" = false := by decide
  have nneg : ¬ ((i : Int) < 0) := by omega
  have st' : (s.heap.update it (Obj.mapFields (·.setIfInBounds 1 (rawInt ((i : Int) + 1))))).IsKeyIter it d (i + 1) es.size ep :=
    ⟨_, Heap.get?_update_self _ hoi (Obj.isFreed_of_fields (Obj.data_mapFields di _)), by rw [Obj.cls_mapFields]; exact ci, by rw [Obj.data_mapFields di]; simp [rawInt]⟩
  unfold pyNext
  refine wpAny_bind (wpAny_attempt (wpAny_callSpecial?_slot (name := Str.ofString "__next__") ty F.slot_dict_keyiterator_next (wpAny_call_entry F.slot_dict_keyiterator_next ty F.entry_dict_keyiterator_next (by
    refine wpAny_bind (wpAny_pure (wpAny_bind (wpAny_bind ?_)))
    refine wpAny_bind (wpAny_typeNameOfWhole_keyiter ty (wpAny_pure (wpAny_bind (wpAny_fieldsOf hoi di ?_))))
    rw [nown]; simp only [Bool.false_eq_true, if_false]
    show wpAny _ _ (if (Value.ref d == Value.none) = true then _ else _) _ _ s; rw [show (Value.ref d == Value.none) = false from rfl]; rw [if_neg Bool.false_ne_true]
    refine wpAny_bind (wpAny_pure (wpAny_bind (wpAny_dictEntries ho he ?_)))
    rw [if_neg (by simp)]; refine wpAny_bind (wpAny_pure (wpAny_bind (wpAny_dictEpoch ho he ?_))); rw [if_neg (by simp)]; refine wpAny_pure ?_
    simp only [nneg, if_false, Int.toNat_natCast, Array.getElem?_eq_getElem hi]
    refine wpAny_bind (wpAny_bind (wpAny_typeNameOfWhole_keyiter ty (wpAny_pure (wpAny_bind (wpAny_isOneOf_keyiter ty ?_)))))
    show wpAny _ _ (setField (.ref it) 1 (rawInt ((i : Int) + 1)) >>= _) _ _ s; refine wpAny_bind (wpAny_setField hoi di (by simp) ?_)
    refine wpAny_bind (wpAny_holding (wpAny_bind (wpAny_isOneOf_keyiter (s := { s with heap := s.heap.update it (Obj.mapFields (·.setIfInBounds 1 (rawInt ((i : Int) + 1)))) }) st'.typeIs ?_)))
    show wpAny _ _ (pure es[i].key) _ _ _; exact wpAny_pure (wpAny_pure ⟨_, rfl, wpAny_pure (k _ st' (Heap.SameBut.update ..))⟩)) (F.args_dict_keyiterator_next_1 _))))
theorem keys_end {i : Nat} {Q : Option Value → Shared → Prop} (calm : A.handled = none) (st : s.heap.IsKeyIter it d i es.size ep) (ho : s.heap.get? d = some od) (he : od.data = .dict es ep) (hi : es.size ≤ i)
    (k : ∀ h', Heap.ExtBut it s.heap h' → Q none { s with heap := h' }) : wpAny (model prog w) A (pyNext (.ref it)) Q E s := by
  obtain ⟨oi, hoi, ci, di⟩ := id st
  have ty := st.typeIs
  have nown : Builtin.Dict_items.ownsTuple "dict_keyiterator" = false := by decide
  have nneg : ¬ ((i : Int) < 0) := by omega
  unfold pyNext
  refine wpAny_bind (wpAny_attempt (wpAny_callSpecial?_slot (name := Str.ofString "__next__") ty F.slot_dict_keyiterator_next (wpAny_call_entry F.slot_dict_keyiterator_next ty F.entry_dict_keyiterator_next (by
    refine wpAny_bind (wpAny_pure (wpAny_bind (wpAny_bind ?_)))
    refine wpAny_bind (wpAny_typeNameOfWhole_keyiter ty (wpAny_pure (wpAny_bind (wpAny_fieldsOf hoi di ?_))))
    rw [nown]; simp only [Bool.false_eq_true, if_false]
    show wpAny _ _ (if (Value.ref d == Value.none) = true then _ else _) _ _ s; rw [show (Value.ref d == Value.none) = false from rfl]; rw [if_neg Bool.false_ne_true]
    refine wpAny_bind (wpAny_pure (wpAny_bind (wpAny_dictEntries ho he ?_)))
    rw [if_neg (by simp)]; refine wpAny_bind (wpAny_pure (wpAny_bind (wpAny_dictEpoch ho he ?_))); rw [if_neg (by simp)]; refine wpAny_pure ?_
    simp only [nneg, if_false, Int.toNat_natCast, Array.getElem?_eq_none hi]
    refine wpAny_bind (wpAny_bind (wpAny_typeNameOfWhole_keyiter ty (wpAny_pure ?_)))
    show wpAny _ _ (setField (.ref it) 0 .none >>= _) _ _ s; refine wpAny_bind (wpAny_setField hoi di (by simp) ?_)
    show wpAny _ _ (newExc (.type "StopIteration") [] >>= _) _ _ _; refine wpAny_bind ?_
    simp only [newExc, newTuple]; refine wpAny_bind (wpAny_newObj_type ?_ (by size_fits))
    refine wpAny_bind (m := firstArgMember _ _) (wpAny_of_eq (a := Value.none) (by first | rfl | (simp only [firstArgMember]; rfl)) (wpAny_newObj_type ?_ (by size_fits)))
    simp only [raiseNew]; refine wpAny_bind (wpAny_handled ?_); rw [show A.in1.handled = none from calm]
    refine wpAny_bind (wpAny_pure (wpAny_throw ?_)); refine wpAny_bind (wpAny_isInstance (T := "StopIteration") (b := true) ⟨_, Heap.get?_push_size _ rfl, rfl⟩ isSubtype_stop ?_)
    exact wpAny_pure (k _ (((Heap.SameBut.update ..).extBut.push _).push _))) (F.args_dict_keyiterator_next_1 _))))
end
end L2
set_option Elab.async false
set_option linter.all false
set_option maxRecDepth 100000
set_option maxHeartbeats 4000000
namespace L2
open PySem PySem.Spec PyProof.Rows
section
variable {X : Cx} {pins : List (Addr × Obj)} {σ : St} {H : Hp} {s : Shared} {d : Addr}
theorem kt_upd {kvs : List (List Key × V)} {xs : List (List Key × Addr × Value)} {u v : HO} (r : KT H kvs xs) (e : H d = some u) (h1 : ∀ ys, u ≠ .tup ys) : KT (upd H d v) kvs xs := by
  refine Paired.mapP r fun p q z => ⟨z.1, ?_, z.2.2⟩
  have : q.2.1 ≠ d := fun w => by rw [w, e] at z; exact h1 _ (Option.some.inj z.2.1)
  rw [upd_ne this]
  exact z.2.1
theorem Inv.nofrzT {kvs : List (List Key × V)} (I : Inv X pins σ H s) (e : H d = some (.dT kvs)) : ∀ o v, X.H₀ d ≠ some (.frz o v) := fun o v q => by
  have := I.base.frzs d o v q
  rw [e] at this
  cases this
theorem Inv.freezeT {kvs : List (List Key × V)} {o : Obj} (I : Inv X pins σ H s) (e : H d = some (.dT kvs)) (ho : s.heap.get? d = some o) : Inv X pins σ (upd H d (.frz o (.dT kvs))) s := by
  refine I.retag e (fun _ z => by cases z) (fun _ z => by cases z) (fun _ z => by cases z) (I.nofrzT e) ⟨ho, ?_⟩
  obtain ⟨z, y, xs, r, dd⟩ := (show ObjOk X.prog X.w H s.heap d (.dT kvs) from I.hok d _ e)
  exact ⟨z, y, xs, kt_upd r e (fun _ z => by cases z), dd⟩
theorem Inv.thawT {kvs : List (List Key × V)} {o : Obj} (I : Inv X pins σ H s) (e : H d = some (.frz o (.dT kvs))) (hz : ∀ o v, X.H₀ d ≠ some (.frz o v)) : Inv X pins σ (upd H d (.dT kvs)) s := by
  refine I.retag e (fun _ z => by cases z) (fun _ z => by cases z) (fun _ z => by cases z) hz ?_
  obtain ⟨_, z, y, xs, r, dd⟩ := (show ObjOk X.prog X.w H s.heap d (.frz o (.dT kvs)) from I.hok d _ e)
  exact ⟨z, y, xs, kt_upd r e (fun _ z => by cases z), dd⟩
end
/-! ### over the keys of a dict whose keys are tuples -/
def ItdT (d : Addr) (o : Obj) (kvs : List (List Key × V)) : It :=
  ⟨fun i H => i < kvs.length ∧ H d = some (.frz o (.dT kvs)), fun i H x H' => H' = H ∧ ∃ k v b, kvs[i]? = some (k, v) ∧ x = .ref b ∧ H b = some (.tup (k.map kV)), fun i H => kvs.length ≤ i ∧ H d = some (.frz o (.dT kvs))⟩
theorem kt_get {H : Hp} {kvs : List (List Key × V)} {xs : List (List Key × Addr × Value)} (r : KT H kvs xs) : ∀ (i : Nat) (k : List Key) (v : V), kvs[i]? = some (k, v) → ∃ q, xs[i]? = some q ∧ H q.2.1 = some (.tup (k.map kV)) := by
  induction r with
  | nil => intro i k v h; cases h
  | @cons p q ps qs h r ih =>
    intro i k v e
    cases i with
    | zero =>
      have e' : p = (k, v) := Option.some.inj e
      subst e'
      exact ⟨q, rfl, h.2.1⟩
    | succ i => exact ih i k v (by simpa using e)
theorem turn_dictT {P : Program} {w : World} {K : PySem.W.Frag} {tg : Expr} (d it : Addr) (o : Obj) (kvs : List (List Key × V)) (es : Array DictEntry) (ep : Nat) (hd : o.data = .dict es ep) : Turn P w K tg (ItdT d o kvs) [it] it (fun i h => h.IsKeyIter it d i es.size ep) where
  mem := by simp
  obj := fun i h st b hb => by
    have e : b = it := by simpa using hb
    subst e
    obtain ⟨o, e, c, d⟩ := st
    exact ⟨o, e, fun v z => by rw [d] at z; cases z⟩
  keep := fun i h h' st k => by
    obtain ⟨o, e, c, d⟩ := st
    exact ⟨o, k it (by simp) o e, c, d⟩
  item := by
    intro X hP hw hK hc i pins s σ H E I hf st hg
    subst hP hw hK
    obtain ⟨hi, hH⟩ := hg
    obtain ⟨ho, z, y, xs, r, o', es', ep', q1, q2, q3, q4, q5⟩ := (show ObjOk X.prog X.w H s.heap d (.frz o (.dT kvs)) from I.hok d _ hH)
    rw [ho] at q1
    cases q1
    rw [hd] at q3
    cases q3
    have hl : kvs.length = xs.length := Paired.length r
    have hsz : es.size = xs.length := by rw [← Array.length_toList, q4, List.length_map]
    obtain ⟨k, v, ekv⟩ : ∃ k v, kvs[i]? = some (k, v) := ⟨kvs[i].1, kvs[i].2, by simp [hi]⟩
    obtain ⟨q, eq, hq⟩ := kt_get r i k v ekv
    have ie : i < es.size := by omega
    have ek : es[i].key = .ref q.2.1 := by
      have e1 : es.toList[i]? = some es[i] := by simp [ie]
      rw [q4, List.getElem?_map, eq] at e1
      have := Option.some.inj e1
      rw [← this]
      rfl
    obtain ⟨f0, f1, f2, f3, f4, f5⟩ := hf it (by simp)
    refine keys_item st ho hd ie fun h' st' sb => ?_
    have I1 : Inv X pins σ H { s with heap := h' } := I.turned (t' := s.toks) (fun b o hb e => (sb.2 b hb).trans e) f0 f1 f3 f4 f5
    obtain ⟨ob, e, c, dd⟩ := id st'
    rw [ek]
    exact ⟨.ref q.2.1, rfl, go_of (s := { s with heap := h' }) e c dd (by decide) ⟨.ref q.2.1, H, I1, rfl, ⟨rfl, k, v, q.2.1, ekv, rfl, hq⟩, st', fun b hb => (hf b hb).1⟩⟩
  done := by
    intro X hP hw hK hc i pins s σ H E I hf st hg
    subst hP hw hK
    obtain ⟨hi, hH⟩ := hg
    obtain ⟨ho, z, y, xs, r, o', es', ep', q1, q2, q3, q4, q5⟩ := (show ObjOk X.prog X.w H s.heap d (.frz o (.dT kvs)) from I.hok d _ hH)
    rw [ho] at q1
    cases q1
    rw [hd] at q3
    cases q3
    have hl : kvs.length = xs.length := Paired.length r
    have hsz : es.size = xs.length := by rw [← Array.length_toList, q4, List.length_map]
    obtain ⟨f0, f1, f2, f3, f4, f5⟩ := hf it (by simp)
    exact keys_end (I.ok.hd hc) st ho hd (by omega) fun h' eb => ⟨rfl, I.turned (t' := s.toks) (fun b o hb e => eb b o hb e) f0 f1 f3 f4 f5⟩
  self := fun _ _ _ _ _ st h => wpAny_pyIter_keyiter st h
section
variable {X : Cx} {tg : Expr}
def iDictT (tl : TE) : TI := fun σ H R => tl σ H fun x H1 => ∃ d kvs, x = .ref d ∧ H1 d = some (.dT kvs) ∧ ∀ o, R (ItdT d o kvs) (upd H1 d (.frz o (.dT kvs)))
theorem pi_dictT {l : Expr} {tl : TE} (hl : PE X l tl) : PI X tg l (iDictT tl) := by
  intro pins s σ H R I h
  refine thn (hl pins s σ H _ I h) fun v s1 ⟨x, H1, I1, r1, q1⟩ => ?_
  obtain ⟨d, kvs, e, hH, q⟩ := q1
  subst e
  cases r1
  obtain ⟨z, hd, xs, r, o, es, ep, ho, q2, q3, q4, q5⟩ := (show ObjOk X.prog X.w H1 s1.heap d (.dT kvs) from I1.hok d _ hH)
  refine keys_begin hd ho q2 q3 ?_
  have If := I1.freezeT hH ho
  have nit : (upd H1 d (HO.frz o (.dT kvs))) s1.heap.objs.size = none := by
    rw [upd_ne (Ne.symm (Nat.ne_of_lt (Heap.lt_size ho)))]
    exact I1.hok.fresh (Nat.le_refl _)
  refine ⟨s1.heap.objs.size, [s1.heap.objs.size], _, _, upd H1 d (.frz o (.dT kvs)), rfl, If.kept (t' := s1.toks) fun b o e => Heap.get?_push_of_some _ e, turn_dictT d _ o kvs es ep q3, ⟨_, Heap.get?_push_size _ rfl, rfl, rfl⟩, fun b hb => ?_, q o⟩
  have e : b = s1.heap.objs.size := by simpa using hb
  subst e
  exact If.fpOk (Nat.le_refl _) nit
end
/-! ### let go again -/
def ThawT (H H' H'' : Hp) : Prop := ∃ d kvs0 o kvs, H d = some (.dT kvs0) ∧ H' d = some (.frz o (.dT kvs)) ∧ H'' = upd H' d (.dT kvs)
def sThawT (t : TS) : TS := fun D σ H => t { D with nx := fun σ' H' => ∃ H'', ThawT H H' H'' ∧ D.nx σ' H'' } σ H
theorem ps_thawT {X : Cx} {st : Stmt} {t : TS} (h : PS X st t) : PS X st (sThawT t) := by
  intro pins s σ H D I q
  refine wpAny_mono (h pins s σ H _ I q) (fun f s1 q1 => ?_) fun _ _ z => z
  cases f with
  | next =>
    obtain ⟨σ1, H1, I1, H2, ⟨d, kvs0, o, kvs, e1, e2, rfl⟩, q2⟩ := q1
    exact ⟨σ1, _, I1.thawT e2 (I.nofrzT e1), q2⟩
  | brk => exact q1
  | cont => exact q1
  | ret u => exact q1
section
variable {d D : Addr} {o : Obj} {kvs : List (List Key × V)} {tc : TT} {te : TE} {Q : VK} {rest : St} {H1 : Hp}
end
end L2
set_option Elab.async false
set_option linter.all false
set_option maxRecDepth 100000
set_option maxHeartbeats 4000000
namespace L2
open PySem PySem.Spec PyProof.Rows
section
variable {X : Cx} {k : Nat} {C : Addr} {sp : Sp}
end
end L2
set_option Elab.async false
set_option linter.all false
set_option maxRecDepth 100000
set_option maxHeartbeats 4000000
namespace L2
open PySem PySem.Spec PyProof.Rows
section
variable {prog : Program} {w : World} {K : Type} [DecidableEq K] {knd : HeapKind prog w K} {A : Around} {E : Value → Shared → Prop} {s : Shared}
theorem setNew_heap {d a : Addr} {xs : List (K × Addr × Value)} {k : K} {v : Value} {Q : Unit → Shared → Prop}
    (hr : knd.room A) (hk : knd.is s.heap k a) (dd : Heap.DictOfH knd s.heap d xs) (hz : xs.length ≤ sizeLine) (nk : k ∉ xs.map (·.1))
    (h2 : ∀ h', Heap.DictOfH knd h' d (xs ++ [(k, a, v)]) → Heap.SameBut d s.heap h' → Q () { s with heap := h' }) :
    wpAny (model prog w) A (dictSetHashed d (.ref a) (knd.hash k) v) Q E s := by
  unfold dictSetHashed
  refine wpAny_holding ?_
  obtain ⟨o, es, ep, ho, hx, hd, he, hi, hn⟩ := id dd
  have hl : es.size = xs.length := by rw [← Array.length_toList, he, List.length_map]
  refine wpAny_bind (wpAny_dictFind_heap hr hk ho hd he hi hn (fun hno => ?_) (fun j p hj => absurd (List.mem_map.mpr ⟨(k, p), List.mem_of_getElem? hj, rfl⟩) nk))
  refine wpAny_bind (wpAny_rule ?_)
  refine wpAny_updateDictKeys ho hd ?_ (by omega) (by simp)
  have sb := Heap.SameBut.update s.heap d (Obj.mapDictKeys fun x => x.push { hash := knd.hash k, key := .ref a, val := v })
  refine h2 _ ?_ sb
  obtain ⟨oc, od, odat, osl⟩ := o
  simp only at hd
  subst hd
  refine ⟨_, es.push { hash := knd.hash k, key := .ref a, val := v }, ep + 1, Heap.get?_update_self _ ho ?_, hx, rfl, ?_, ?_, ?_⟩
  · obtain ⟨c1, c2, c3⟩ := hx
    simp only at c1
    subst c1
    rfl
  · rw [Array.toList_push, he, List.map_append]; rfl
  · intro x hxm
    rcases List.mem_append.mp hxm with hxm | hxm
    · exact knd.keeps (hi x hxm) ho rfl sb
    · have : x = (k, a, v) := by simpa using hxm
      subst this
      exact knd.keeps hk ho rfl sb
  · rw [List.map_append]
    refine List.nodup_append.mpr ⟨hn, by simp, ?_⟩
    intro y hy z hz' e
    have : z = k := by simpa using hz'
    subst this
    subst e
    exact nk hy
theorem merge_heap {nm : String} {d o : Addr} {xs ys : List (K × Addr × Value)} {Q : Unit → Shared → Prop} (hr : knd.room A) (hdo : d ≠ o) (hoS : (o == sysModules) = false)
    (dd : Heap.DictOfH knd s.heap d xs) (od : Heap.DictOfH knd s.heap o ys) (nd : ((xs ++ ys).map (·.1)).Nodup) (few : xs = [] → ∃ y, ys = [y])
    (hz : xs.length + ys.length ≤ sizeLine)
    (qe : ∀ y ∈ ys, ∀ (R : Bool → Shared → Prop), (∀ b, R b s) → wpAny (model prog w) A (Builtin.Dict.quietEq (.ref y.2.1)) R E s)
    (hQ : ∀ h', Heap.DictOfH knd h' d (xs ++ ys) → Heap.SameBut d s.heap h' → Q () { s with heap := h' }) :
    wpAny (model prog w) A (Builtin.Dict.mergeDict nm d o) Q E s := by
  obtain ⟨dO, des, dep, dho, dhx, dhd, dhe, dhi, dhn⟩ := id dd
  obtain ⟨oO, oes, oep, oho, ohx, ohd, ohe, ohi, ohn⟩ := id od
  have osz : oes.size = ys.length := by rw [← Array.length_toList, ohe, List.length_map]
  unfold Builtin.Dict.mergeDict
  rw [if_neg (by simpa using hdo)]
  unfold Builtin.Dict.showsAll
  rw [if_neg (by rw [hoS]; exact Bool.false_ne_true)]
  refine wpAny_bind (wpAny_pure ?_)
  refine wpAny_bind (wpAny_dictEntries oho ohd ?_)
  have loop : wpAny (model prog w) A (do
      let epoch ← dictEpoch o
      let l ← dictEntries o
      forIn [:l.size] PUnit.unit fun i (_ : PUnit) => (do
          let m ← dictEntries o
          match m[i]? with
            | some e => do
              holding [e.key, e.val] (dictSetHashed d e.key e.hash e.val)
              let now ← dictEpoch o
              if (now != epoch) = true then do
                  (unsupported (toString nm ++ toString ":source-changed-during-callback") : Sem PUnit)
                  pure (ForInStep.yield PUnit.unit)
                else pure (ForInStep.yield PUnit.unit)
            | _ => do (unsupported "internal:dict-merge" : Sem PUnit); pure (ForInStep.yield PUnit.unit) : Sem (ForInStep PUnit))
      pure ()) Q E s := by
    refine wpAny_bind (wpAny_dictEpoch oho ohd (wpAny_bind (wpAny_dictEntries oho ohd (wpAny_bind ?_))))
    rw [Std.Legacy.Range.forIn_eq_forIn_range']; simp only [Std.Legacy.Range.size, Nat.sub_zero, Nat.add_sub_cancel, Nat.div_one]
    refine wpAny_forIn_list _ (fun rest _ t => ∃ h' i, t = { s with heap := h' } ∧ rest = List.range' i (oes.size - i) ∧ i ≤ oes.size ∧ Heap.DictOfH knd h' d (xs ++ ys.take i) ∧ h'.get? o = some oO ∧ Heap.SameBut d s.heap h') _ ?_ ?_ _ _ ⟨s.heap, 0, rfl, by simp, Nat.zero_le _, by rw [List.take_zero, List.append_nil]; exact dd, oho, Heap.SameBut.refl _ _⟩
    · rintro x rest b t ⟨h', i, rfl, hrr, hi, hd', hoo', hs'⟩
      have hlt : i < oes.size := Nat.lt_of_not_le fun z => by rw [Nat.sub_eq_zero_of_le z] at hrr; cases hrr
      rw [show oes.size - i = (oes.size - (i + 1)) + 1 by omega, List.range'_succ] at hrr
      obtain ⟨rfl, hrest⟩ := List.cons.inj hrr
      obtain ⟨y, ey⟩ : ∃ y, ys[x]? = some y := ⟨_, List.getElem?_eq_getElem (by omega)⟩
      obtain ⟨k, a, v⟩ := y
      have ee : oes[x]? = some (entryOfKey knd (k, a, v)) := by rw [← Array.getElem?_toList, ohe, List.getElem?_map, ey]; rfl
      refine wpAny_bind (wpAny_dictEntries hoo' ohd ?_)
      rw [ee]
      have mem := List.mem_of_getElem? ey
      have tk : ys.take (x + 1) = ys.take x ++ [(k, a, v)] := by rw [List.take_add_one, ey]; rfl
      have ndx : ((xs ++ ys.take (x + 1)).map (·.1)).Nodup := by
        refine List.Nodup.sublist ?_ nd
        exact List.Sublist.map _ (List.Sublist.append (List.Sublist.refl _) (List.take_sublist _ _))
      rw [tk, ← List.append_assoc, List.map_append] at ndx
      have nk : k ∉ (xs ++ ys.take x).map (·.1) := fun z => (List.nodup_append.mp ndx).2.2 k z k (by simp) rfl
      have hk' : knd.is h' k a := knd.keeps (ohi _ mem) dho dhd hs'
      refine wpAny_bind (wpAny_holding (setNew_heap hr hk' hd' (by rw [List.length_append, List.length_take]; omega) nk fun h'' hd'' hs'' => ?_))
      have hoo'' : h''.get? o = some oO := (hs''.2 o (Ne.symm hdo)).trans hoo'
      refine wpAny_bind (wpAny_dictEpoch hoo'' ohd ?_)
      rw [if_neg (by simp)]
      exact wpAny_pure ⟨h'', x + 1, rfl, hrest, hlt, by rw [tk, ← List.append_assoc]; exact hd'', hoo'', hs'.trans hs''⟩
    · rintro b t ⟨h', i, rfl, hrr, hi, hd', hoo', hs'⟩
      have hin : i = oes.size := by
        rcases Nat.lt_or_ge i oes.size with h | h
        · rw [show oes.size - i = (oes.size - (i + 1)) + 1 by omega, List.range'_succ] at hrr
          cases hrr
        · omega
      refine wpAny_pure (hQ h' ?_ hs')
      rw [hin, osz, List.take_length] at hd'
      exact hd'
  dsimp only
  split
  · refine wpAny_bind (wpAny_dictEntries dho dhd ?_)
    split
    · rename_i hemp
      have xe : xs = [] := by
        have h0 : des = #[] := Array.isEmpty_iff.mp hemp
        rw [h0] at dhe
        exact List.map_eq_nil_iff.mp dhe.symm
      obtain ⟨y, ye⟩ := few xe
      subst xe
      subst ye
      have eo : oes = #[entryOfKey knd y] := by
        have : oes.toList = [entryOfKey knd y] := ohe
        rw [← Array.toArray_toList (xs := oes), this]
      refine wpAny_bind ?_
      unfold Builtin.Dict.entriesForEmpty
      refine wpAny_bind (wpAny_dictEntries oho ohd ?_)
      subst eo
      have qy := qe y (by simp)
      have fs : ¬ (Array.filter (fun x => x.hash == (entryOfKey knd y).hash) #[entryOfKey knd y]).size > 1 := by
        have := Array.size_filter_le (p := fun x : DictEntry => x.hash == (entryOfKey knd y).hash) (xs := #[entryOfKey knd y])
        simp at this ⊢
      refine wpAny_bind ?_
      rw [← Array.forIn_toList]
      show wpAny (model prog w) A (forIn [entryOfKey knd y] PUnit.unit _) _ E s
      rw [List.forIn_cons]
      refine wpAny_bind ?_
      refine wpAny_bind (qy _ fun q => ?_)
      have nx : ∀ (R : ForInStep PUnit → Shared → Prop), R (.yield PUnit.unit) s → wpAny (model prog w) A (if (!q) = true then (if (Array.filter (fun x => x.hash == (entryOfKey knd y).hash) #[entryOfKey knd y]).size > 1 then (do (unsupported (toString nm ++ toString ":keys-of-equal-hash") : Sem PUnit); pure (ForInStep.yield PUnit.unit)) else pure (ForInStep.yield PUnit.unit)) else pure (ForInStep.yield PUnit.unit)) R E s := fun R hR => by
        cases q
        · rw [if_pos (show (!false) = true from rfl), if_neg fs]
          exact wpAny_pure hR
        · rw [if_neg (by simp)]
          exact wpAny_pure hR
      refine nx _ ?_
      show wpAny (model prog w) A (forIn [] PUnit.unit _) _ E s
      rw [List.forIn_nil]
      refine wpAny_pure (wpAny_pure ?_)
      rw [if_pos (by simp)]
      refine wpAny_bind (wpAny_updateDictKeysTo dho dhd (wpAny_pure (hQ _ ?_ (Heap.SameBut.update ..))) (by show 1 ≤ sizeLine + 1; omega))
      have sb := Heap.SameBut.update s.heap d (Obj.mapDictKeys fun _ => #[entryOfKey knd y])
      refine ⟨_, _, dep + 1, Heap.get?_update_self _ dho (Obj.isFreed_of_dict (Obj.data_mapDictKeys dhd _)), dhx.mapDictKeys _, Obj.data_mapDictKeys dhd _, rfl, fun x hx => ?_, by simp⟩
      exact knd.keeps (ohi x hx) dho dhd sb
    · exact loop
  · exact loop
theorem meetsH_update (knd : HeapKind prog w K) (d o : Addr) (hdo : d ≠ o) (hoS : (o == sysModules) = false) :
    MeetsIn prog w (Builtin.«dict.update» ⟨[.ref d, .ref o], []⟩) (fun A R s => knd.room A.in1 ∧ ∃ xs ys, Heap.DictOfH knd s.heap d xs ∧ Heap.DictOfH knd s.heap o ys ∧ ((xs ++ ys).map (·.1)).Nodup ∧ (xs = [] → ∃ y, ys = [y]) ∧ xs.length + ys.length ≤ sizeLine ∧
      (∀ y ∈ ys, s.TypeIs (.ref y.2.1) "tuple") ∧ ∀ h', Heap.DictOfH knd h' d (xs ++ ys) → Heap.SameBut d s.heap h' → R (.ok (.ret .none)) { s with heap := h' }) := by
  rintro A R s ⟨hr, xs, ys, dd, od, nd, few, hz, ht, h⟩
  obtain ⟨dO, des, dep, dho, dhx, dhd, _⟩ := id dd
  obtain ⟨oO, oes, oep, oho, ohx, ohd, _⟩ := id od
  have td : s.TypeIs (.ref d) "dict" := ⟨dO, dho, dhx.1⟩
  have to : s.TypeIs (.ref o) "dict" := ⟨oO, oho, ohx.1⟩
  unfold Builtin.«dict.update»
  refine wpAny_bind ?_
  unfold Builtin.Dict.selfAndRest
  refine wpAny_bind (wpAny_notOrdered_dict td ?_)
  show wpAny _ _ (pure (d, [Value.ref o])) _ _ s
  refine wpAny_pure ?_
  show wpAny _ _ (Builtin.Dict.updateFrom "dict.update" d (.ref o) [] .none) _ _ s
  unfold Builtin.Dict.updateFrom; refine wpAny_bind (wpAny_typeOf to ?_)
  rw [if_neg (by decide)]
  refine wpAny_bind ?_
  unfold Builtin.Dict.merge; refine wpAny_bind ?_
  unfold Builtin.Dict.readDirectly; refine wpAny_bind (wpAny_isInstance to isSubtype_dict_dict ?_)
  simp only [Bool.not_true, Bool.false_eq_true, if_false]; refine wpAny_bind (wpAny_specialOf to F.slot_dict_iter.lookup (wpAny_pure ?_))
  simp only [beq_self_eq_true, if_true]; refine wpAny_bind (wpAny_pure ?_)
  refine merge_heap hr hdo hoS dd od nd few hz (fun y hy R hR => ?_) fun h' dd' sb => ?_
  · unfold Builtin.Dict.quietEq
    exact wpAny_bind (wpAny_specialOf (ht y hy) PySem.F.slot_tuple_eq.lookup (wpAny_pure (hR _)))
  · show wpAny _ _ (Builtin.Dict.addKeywords d [] >>= _) _ _ _
    exact wpAny_bind (wpAny_pure (wpAny_pure (h h' dd' sb)))
end
section
variable {X : Cx}
theorem paired_app {α β : Type} {R : α → β → Prop} : ∀ {a b : List α} {c d : List β}, Paired R a c → Paired R b d → Paired R (a ++ b) (c ++ d) := by
  intro a b c d p q
  induction p with
  | nil => exact q
  | cons h t ih => exact .cons h ih
theorem kt_keys {H : Hp} {kvs : List (List Key × V)} {xs : List (List Key × Addr × Value)} (r : KT H kvs xs) : kvs.map (·.1) = xs.map (·.1) := by
  induction r with
  | nil => rfl
  | cons h t ih => rw [List.map_cons, List.map_cons, ih, h.1]
theorem kt_tups {H : Hp} {kvs : List (List Key × V)} {xs : List (List Key × Addr × Value)} (r : KT H kvs xs) : ∀ y ∈ xs, ∃ ks : List Key, H y.2.1 = some (.tup (ks.map kV)) := by
  induction r with
  | nil => intro y hy; cases hy
  | cons h t ih =>
    intro y hy
    rcases List.mem_cons.mp hy with e | hy
    · subst e
      exact ⟨_, h.2.1⟩
    · exact ih y hy
def rUpdT : V → List V → Hp → VK → Prop := fun x vs H Q => ∃ (a b : Addr) (kvs mvs : List (List Key × V)), x = .ref a ∧ vs = [.ref b] ∧ H a = some (.dT kvs) ∧ H b = some (.dT mvs) ∧ ((kvs ++ mvs).map (·.1)).Nodup ∧ (kvs = [] → ∃ y, mvs = [y]) ∧ kvs.length + mvs.length ≤ sizeLine ∧ Q .non (upd H a (.dT (kvs ++ mvs)))
theorem mt_updT (hu : X.A.units + 1 < cLine) : MtR X "dict.update" rUpdT := by
  intro pins s σ H x vs v us Q I rx rv h
  obtain ⟨a, b, kvs, mvs, rfl, rfl, ea, eb, nd, few, hz, q⟩ := h
  cases rx
  obtain ⟨u, rfl, ru⟩ := rv.one
  cases ru
  have hab : a ≠ b := fun z => by
    subst z
    rw [ea] at eb
    cases eb
    rcases kvs with _ | ⟨y, l⟩
    · obtain ⟨w, e⟩ := few rfl
      cases e
    · simp at nd
  obtain ⟨_, _, xs, rel, dd⟩ := dt_of I.hok ea
  obtain ⟨_, hoS, ys, rel2, od⟩ := dt_of I.hok eb
  have hd := (dt_of I.hok ea).2.1
  have lx := Paired.length rel
  have ly := Paired.length rel2
  refine call_meetsIn PySem.F.slot_dict_update dd.typeIs PySem.F.entry_dict_update (PySem.F.args_dict_update_2 _ _) (meetsH_update (tupleKind (mixKind X.prog X.w)) a b hab hoS) ⟨tupleKind_room_in1 hu, xs, ys, dd, od, ?_, fun e => ?_, by omega, fun y hy => ?_, fun h' dd' sb => ?_⟩
  · rw [List.map_append, ← kt_keys rel, ← kt_keys rel2, ← List.map_append]
    exact nd
  · subst e
    obtain ⟨y, e⟩ := few (List.length_eq_zero_iff.mp lx)
    rw [e] at ly
    exact List.length_eq_one_iff.mp ly.symm
  · obtain ⟨ks, e⟩ := kt_tups rel2 y hy
    obtain ⟨_, its, _, o, h1, h2, _⟩ := (show ObjOk X.prog X.w H s.heap y.2.1 (.tup (ks.map kV)) from I.hok _ _ e)
    exact ⟨o, h1, h2⟩
  · obtain ⟨o, es, ep, hq, h2, h3, h4, _, h5⟩ := dd'
    refine ⟨.non, upd H a (.dT (kvs ++ mvs)), d_write (ob := .dT (kvs ++ mvs)) I (by rw [ea]; exact True.intro) sb ⟨o, hq⟩ ⟨by rw [List.length_append]; exact hz, hd, _, (show KT H (kvs ++ mvs) (xs ++ ys) from paired_app rel rel2).keeps fun c zs ec => ?_, o, es, ep, hq, h2, h3, h4, h5⟩, rfl, q⟩
    rw [upd_ne (ne_of ec ea (fun z => nomatch z))]
    exact ec
end
end L2
set_option Elab.async false
set_option linter.all false
set_option maxRecDepth 100000
set_option maxHeartbeats 4000000
namespace L2
open PySem PySem.Spec PyProof.Rows
/-! ### defs with defaults: from which nothing leaves, called with the last ones left out, or the last one by its name -/
section
variable {P : Program} {w : World} {K : PySem.W.Frag} {mg : Str → Option Value} {base : Heap}
/-- dvs: the values of the last defaults, left out -/
def FnAtD (P : Program) (w : World) (K : PySem.W.Frag) (mg : Str → Option Value) (base : Heap) (k : Nat) (x : Str) (ps : List Str) (dvs : List V) (sp : Sp) : Prop :=
  ∃ f fd ds, FnOk P w K mg base (CX1 P w) k f fd ps sp ∧ mg x = some (.ref f) ∧ PySem.W.keepIn K (.ref f) = true ∧ Binds K fd ps ds ∧ Vals dvs ds
/-- the last parameter by its name -/
def FnAtK (P : Program) (w : World) (K : PySem.W.Frag) (mg : Str → Option Value) (base : Heap) (k : Nat) (x : Str) (ps : List Str) (kn : Str) (sp : Sp) : Prop :=
  ∃ f fd, FnOk P w K mg base (CX1 P w) k f fd ps sp ∧ mg x = some (.ref f) ∧ PySem.W.keepIn K (.ref f) = true ∧
    ∀ (s : Shared) (us : List Value) (z : Value), K.In s.heap → (us ++ [z]).length = ps.length → BindsTo s fd ⟨us, [(kn, z)]⟩ (ps.zip (us ++ [z]))
end
section
variable {X : Cx} {k : Nat} {x kn : Str} {ps : List Str} {sp : Sp} {dvs : List V} {e ke : Expr} {es : List Expr} {te : TE} {t : TA} {p pos kpos : Pos} {E : St → XK}
def tCallD (sp : Sp) (dvs : List V) (E : St → XK) (t : TA) : TE := fun σ H Q => t σ H fun vs H1 => sp (vs ++ dvs) H1 Q (E σ)
theorem pe_fnD (F : FnAtD X.prog X.w X.K X.mg X.base k x ps dvs sp) (hx : X.ex = []) (R : Rz X E) (hr : Room k X.A) (hg : Gl X x) (ha : PA X (e :: es) t) (hd : (x == ("__debug__" : Str)) = false := by decide)
    (he : starEach (e :: es) X.env = (false, eval e X.env) :: starEach es X.env := by rfl) (hpl : (backTo pos (starEach es X.env)).any (·.1) = false := by rfl) :
    PE X (.Call (.Name x p) (e :: es) [] pos) (tCallD sp dvs E t) := by
  obtain ⟨f, fd, ds, G, hm, hk, hb, hv⟩ := F
  intro pins s σ H Q I h
  refine wpAny_Call_Name_kw (ld_glob I hg hm ?_ hd)
  refine PySem.W.callWith_K (h₀ := X.base) I.ok.mod.kin hk (thn (ha pos pins s σ H _ I h) fun us s1 ⟨vs, H1, I1, r, q⟩ => ⟨I1.kIn, ?_⟩) he hpl
  have rv := r.append hv
  have hl : (us ++ ds).length = ps.length := by rw [← rv.length]; exact G.len _ _ _ _ q
  refine wpAny_call (codeAny_mono (G.run X.A X.stack s1 H1 ⟨us, []⟩ (us ++ ds) (vs ++ dvs) Q (E σ) hr I1.env0 (hb s1 us I1.kIn hl) rv q) fun res s' hq => ?_)
  match res, hq with
  | .error ev, hq => exact passes1 hx R I1 hq
  | .ok (.ret u), hq => exact I1.after hq
def tCallKw (sp : Sp) (E : St → XK) (t : TA) (te : TE) : TE := fun σ H Q => t σ H fun vs H1 => te σ H1 fun z H2 => ∃ z', [z] = [z'] ∧ sp (vs ++ [z']) H2 Q (E σ)
theorem pe_fnKw (F : FnAtK X.prog X.w X.K X.mg X.base k x ps kn sp) (hx : X.ex = []) (R : Rz X E) (hr : Room k X.A) (hg : Gl X x) (ha : PA X (e :: es) t) (hk : PE X ke te) (hdb : (x == ("__debug__" : Str)) = false := by decide)
    (hall : (backToKw pos (keywordEach [⟨some kn, ke, kpos⟩] X.env)).all (·.1.isSome) = true := by rfl) (hks : (backToKw pos (keywordEach [⟨some kn, ke, kpos⟩] X.env)).filterMap (·.1) = [kn] := by rfl)
    (he : starEach (e :: es) X.env = (false, eval e X.env) :: starEach es X.env := by rfl)
    (hpl : ((backTo pos (starEach (e :: es) X.env)).any (·.1) || (backToKw pos (keywordEach [⟨some kn, ke, kpos⟩] X.env)).any (·.1.isNone)) = false := by rfl) :
    PE X (.Call (.Name x p) (e :: es) [⟨some kn, ke, kpos⟩] pos) (tCallKw sp E t te) := by
  obtain ⟨f, fd, G, hm, hkp, hb⟩ := F
  intro pins s σ H Q I h
  refine wpAny_Call_Name_kw (ld_glob I hg hm ?_ hdb)
  refine PySem.W.callWith_KW (h₀ := X.base) I.ok.mod.kin hkp hall (thn (ha pos pins s σ H _ I h) fun us s1 ⟨vs, H1, I1, r, q⟩ => ?_) hpl he
  refine thn ((pk_cons (nm := some kn) (kpos := kpos) hk pk_nil) pos pins s1 σ H1 (fun zs H2 => ∃ z', zs = [z'] ∧ sp (vs ++ [z']) H2 Q (E σ)) I1 q) fun ws s2 ⟨zs, H2, I2, rz, z', ez, q2⟩ => ⟨I2.kIn, ?_⟩
  subst ez
  obtain ⟨z, rfl, rz1⟩ := rz.one
  rw [hks]
  have rv := r.append rz
  have hl : (us ++ [z]).length = ps.length := by rw [← rv.length]; exact G.len _ _ _ _ q2
  refine wpAny_call (codeAny_mono (G.run X.A X.stack s2 H2 ⟨us, [(kn, z)]⟩ (us ++ [z]) (vs ++ [z']) Q (E σ) hr I2.env0 (hb s2 us z I2.kIn hl) rv q2) fun res s' hq => ?_)
  match res, hq with
  | .error ev, hq => exact passes1 hx R I2 hq
  | .ok (.ret u), hq => exact I2.after hq
end
end L2
set_option Elab.async false
set_option linter.all false
set_option maxRecDepth 100000
set_option maxHeartbeats 4000000
namespace L2
open PySem PySem.Spec PyProof.Rows
/-! ### isinstance(x, (t1, t2)) of plain data, texts and None too -/
section
variable {X : Cx} {K : PySem.W.Frag}
end
end L2
set_option Elab.async false
set_option linter.all false
set_option maxRecDepth 100000
set_option maxHeartbeats 4000000
namespace L2
open PySem PySem.Spec PyProof.Rows
theorem exc_self {K : PySem.W.Frag} {C : Addr} {bmB : List Value} {newId : String} (q : PySem.W.excIn K C bmB newId = true) : PySem.W.subIn K (.ref C) (.ref C) = some true := by
  unfold PySem.W.excIn at q
  split at q
  · rename_i d0 cd sl lk
    split at q
    · rename_i C1 tl a0 a1 a2 a3 nn a5 em es
      simp only [Bool.and_eq_true, beq_iff_eq] at q
      obtain ⟨⟨⟨⟨⟨e1, _⟩, _⟩, _⟩, _⟩, _⟩ := q
      show PySem.W.mroIn K C (.ref C) = some true
      unfold PySem.W.mroIn PySem.W.clsIn
      rw [lk]
      show (if cd.mro.isEmpty then none else some (cd.mro.contains (.ref C))) = some true
      rw [em, e1]
      simp
    · cases q
  · cases q
/-! ### try with several clauses, none of them with a name -/
section
variable {X : Cx} {body : List Stmt} {h0 : ExceptHandler} {hs : List ExceptHandler} {ts : List (Addr × TS)} {tb : (St → XK) → TS} {pos : Pos}
end
end L2
set_option Elab.async false
set_option linter.all false
set_option maxRecDepth 100000
set_option maxHeartbeats 4000000
namespace L2
open PySem PySem.Spec PyProof.Rows
/-! ### xs.count(b), xs.index(b), of truths -/
section
variable {X : Cx}
end
end L2
set_option Elab.async false
set_option linter.all false
set_option maxRecDepth 100000
set_option maxHeartbeats 4000000
namespace L2
open PySem PySem.Spec PyProof.Rows PySem.Builtin PySem.Builtin.Str
/-! ### texts cut, counted, found in lists -/
section
variable {X : Cx} {K : PySem.W.Frag}
end
/-! ### what a cut is -/
end L2
namespace L2
open PySem PySem.Spec PyProof.Rows
section
variable {X : Cx} {k : Nat} {x : Str} {ps : List Str} {sp : Sp} {p pos : Pos}
end
end L2
namespace L2
open PySem PySem.Spec PyProof.Rows
section
variable {X : Cx}
/-! ### a display of many texts, in one step -/
end
end L2
set_option Elab.async false
set_option linter.all false
set_option maxRecDepth 100000
set_option maxHeartbeats 4000000
namespace L2
open PySem PySem.Spec PyProof.Rows
/-! ### dicts whose keys are tuples: length, truth, {t: v} -/
section
variable {prog : Program} {w : World} {K : Type} [DecidableEq K] {knd : HeapKind prog w K} {A : Around} {E : Value → Shared → Prop} {s : Shared} {d : Addr} {xs : List (K × Addr × Value)}
theorem typ_heap (hm : s.heap.DictOfH knd d xs) : s.TypeIs (.ref d) "dict" := by
  obtain ⟨o, es, ep, ho, hc, _⟩ := hm
  exact ⟨o, ho, hc.1⟩
theorem size_heap (z : (d == sysModules) = false) : MeetsIn prog w (Builtin.«dict.__len__» ⟨[.ref d], []⟩) (fun _ R s => ∃ xs, s.heap.DictOfH knd d xs ∧ R (.ok (.ret (.int xs.length s.toks))) { s with toks := s.toks + 1 }) :=
  .of_wp fun A R s ⟨xs, hm, h⟩ => by
    obtain ⟨o, es, ep, ho, _, hdat, he, _⟩ := hm
    show wpAny _ _ (dictSize d >>= _) _ _ s
    unfold dictSize
    exact wpAny_bind (wpAny_bind (wpAny_dictEntries ho hdat (wpAny_pure (wpAny_bind (wpAny_pendingCount_other z (wpAny_ret_mkInt (by
      have e : es.size = xs.length := by rw [← Array.length_toList, he, List.length_map]
      rw [Nat.add_zero, e]; exact h)))))))
theorem lenB_heap {Q : Value → Shared → Prop} (z : (d == sysModules) = false) (hm : s.heap.DictOfH knd d xs) (hf : xs.length ≤ sizeLine)
    (h : Q (.int xs.length (s.toks + 1)) { s with toks := s.toks + 1 + 1 }) : wpAny (model prog w) A (Builtin.«len» ⟨[.ref d], []⟩) (fun r s' => ∃ v, r = .done (.ret v) ∧ Q v s') E s := by
  have hl := line63
  unfold Builtin.«len»
  refine wpAny_bind (m := oneArg "len" _) (wpAny_pure (wpAny_bind (m := callSpecial? (.ref d) (Str.ofString "__len__")) (wpAny_callSpecial?_slot (name := Str.ofString "__len__") (typ_heap hm) F.slot_dict_len (call_meetsIn F.slot_dict_len (typ_heap hm) F.entry_dict_len (F.args_dict_len_1 _) (size_heap (knd := knd) z) ⟨xs, hm, ?_⟩))))
  show wpAny _ _ _ _ _ { s with toks := s.toks + 1 }
  refine wpAny_bind (wpAny_holding (wpAny_pure (wpAny_bind (wpAny_letGo ?_))))
  show wpAny _ _ (if ((xs.length : Nat) : Int) < 0 then _ else _) _ _ _
  rw [if_neg (show ¬ ((xs.length : Nat) : Int) < 0 by omega)]
  show wpAny _ _ (if ((xs.length : Nat) : Int) ≥ 2 ^ 63 then _ else _) _ _ _
  rw [if_neg (show ¬ ((xs.length : Nat) : Int) ≥ 2 ^ 63 by omega)]
  exact wpAny_bind (wpAny_mkInt (wpAny_pure ⟨_, rfl, h⟩))
theorem truth_heap {Q : Bool → Shared → Prop} (z : (d == sysModules) = false) (hm : s.heap.DictOfH knd d xs) (hf : xs.length ≤ sizeLine) (h : Q (!xs.isEmpty) { s with toks := s.toks + 1 + 1 }) : wpAny (model prog w) A (truthy (.ref d)) Q E s := by
  have e0 : ((xs.length : Int) != 0) = !xs.isEmpty := by cases xs <;> simp <;> omega
  have run : wpAny (model prog w) A (runValue (.builtin "len" ⟨[.ref d], []⟩)) (fun r s' => r = .int xs.length (s.toks + 1) ∧ Q (!xs.isEmpty) s') E s := by
    refine wpAny_runValue (codeAny_builtin entry_len ?_)
    rw [Around.under_plainId plain_len _]
    refine wpAny_mono (lenB_heap (Q := fun r s' => r = .int xs.length (s.toks + 1) ∧ Q (!xs.isEmpty) s') z hm hf ⟨rfl, h⟩) (fun fin s' q => ?_) fun _ _ e => e
    obtain ⟨r, rfl, q⟩ := q
    exact q
  have fin : ∀ (r : Value) (s' : Shared), (r = .int xs.length (s.toks + 1) ∧ Q (!xs.isEmpty) s') → ∃ n t, r = .int n t ∧ Q (n != 0) s' := fun r s' ⟨a, b⟩ => ⟨_, _, a, by rw [e0]; exact b⟩
  unfold truthy
  first
    | refine wpAny_bind (wpAny_callSpecial?_none (name := Str.ofString "__bool__") (typ_heap hm) noBool_dict ?_)
    | refine wpAny_bind (wpAny_pure (wpAny_bind (wpAny_callSpecial?_none (name := Str.ofString "__bool__") (typ_heap hm) noBool_dict ?_)))
  first
    | refine wpAny_bind (wpAny_specialOf (name := Str.ofString "__len__") (typ_heap hm) F.slot_dict_len.lookup ?_)
    | refine wpAny_bind (wpAny_pure (wpAny_bind (wpAny_specialOf (name := Str.ofString "__len__") (typ_heap hm) F.slot_dict_len.lookup ?_)))
  first
    | exact wpAny_bind (wpAny_mono run (fun r s' q => by obtain ⟨n, t, rfl, q2⟩ := fin r s' q; exact wpAny_pure q2) fun _ _ e => e)
    | exact wpAny_bind (wpAny_pure (wpAny_bind (wpAny_mono run (fun r s' q => by obtain ⟨n, t, rfl, q2⟩ := fin r s' q; exact wpAny_pure q2) fun _ _ e => e)))
/-- one pair: {t: v} -/
theorem sub_heap {k v : Sem Value} {Q : Addr → Shared → Prop} (hr : knd.room A)
    (h : wpAny (model prog w) A k (fun kv s₁ => wpAny (model prog w) A v (fun vv s₂ => ∃ (kk : K) (a : Addr), kv = .ref a ∧ knd.is s₂.heap kk a ∧ s₂.heap.DictOfH knd s.heap.objs.size [] ∧
      ∀ h', h'.DictOfH knd s.heap.objs.size [(kk, a, vv)] → Heap.SameBut s.heap.objs.size s₂.heap h' → ∀ t', Q s.heap.objs.size { s₂ with heap := h', toks := t' }) E s₁) E { s with heap := s.heap.push { cls := .type "dict", data := .dict #[] } }) :
    wpAny (model prog w) A (subDict [(k, v)]) Q E s := by
  unfold subDict
  refine wpAny_bind (wpAny_alloc (wpAny_bind (wpAny_holding ?_)))
  rw [if_pos (show [(k, v)].length ≤ 15 by simp)]
  refine wpAny_bind (evalPairs_cons (wpAny_mono h (fun kv s₁ h₁ => wpAny_mono h₁ (fun vv s₂ h₂ => evalPairs_nil ?_) fun _ _ e => e) fun _ _ e => e))
  obtain ⟨kk, a, rfl, hk, dd, q⟩ := h₂
  refine wpAny_holding ?_
  rw [List.forIn_cons]
  refine wpAny_bind (wpAny_bind (wpAny_bind (wpAny_dictSet_heap (knd := knd) (xs := []) (hsz := Nat.zero_le _) hr hk dd fun h' d' sb => wpAny_pure ?_)))
  dsimp only
  rw [List.forIn_nil]
  exact wpAny_pure (wpAny_pure (wpAny_pure (q h' d' sb _)))
end
section
variable {X : Cx} {pos : Pos} {k v a : Expr} {tk tv ta : TE}
theorem paired_one {kvs : List (List Key × V)} {H : Hp} {ys : List (List Key × Addr × Value)} (r : KT H kvs ys) : ys.isEmpty = kvs.isEmpty ∧ ys.length = kvs.length := by
  have e : ys.length = kvs.length := (Paired.length r).symm
  refine ⟨?_, e⟩
  cases kvs <;> cases ys <;> simp at e ⊢
/-- len of such a dict -/
theorem call_lenT : CallR X (.builtin "len") (fun xs H Q => ∃ a kvs, xs = [V.ref a] ∧ H a = some (.dT kvs) ∧ Q (.int kvs.length) H) := by
  intro pins s σ H xs us Q I r h
  obtain ⟨a, kvs, rfl, ha, q⟩ := h
  obtain ⟨u, rfl, ru⟩ := vals1 r
  cases ru
  obtain ⟨z, hd, ys, rel, dd⟩ := dt_of I.hok ha
  have e := (paired_one rel).2
  refine Calls.call_function_entry kind_len plain_len entry_len (args_len1 _) (lenB_heap hd dd (by rw [e]; exact z) ?_)
  rw [e]
  exact ⟨.int kvs.length, H, I.tok _, ⟨_, rfl⟩, q⟩
/-- the truth of such a dict -/
def tTruT (ta : TE) : TT := fun σ H Q => ta σ H fun x H' => ∃ a kvs, x = V.ref a ∧ H' a = some (.dT kvs) ∧ Q (!kvs.isEmpty) H'
theorem pt_truT (ha : PE X a ta) (he : ∀ whole, isTrue a X.env whole = (do let v ← whole; standAt a.pos; holding [v] (truthy v)) := by intro _; rfl) : PT X a (tTruT ta) := by
  intro pins s σ H Q I h
  refine isTrue_plain (thn (ha pins s σ H _ I h) fun v s1 ⟨x, H1, I1, r1, q1⟩ => ?_) (he _)
  obtain ⟨d, kvs, rfl, hd, q⟩ := q1
  cases r1
  obtain ⟨z, hs, ys, rel, dd⟩ := dt_of I1.hok hd
  obtain ⟨e1, e2⟩ := paired_one rel
  refine truth_heap hs dd (by rw [e2]; exact z) ?_
  rw [e1]
  exact ⟨H1, I1.tok _, q⟩
def tDisp1 (tk tv : TE) : TE := fun σ H Q => ∀ p, H p = none → tk σ (upd H p (.dT [])) fun x H1 => tv σ H1 fun y H2 => ∃ (t : Addr) (ks : List Key), x = .ref t ∧ H2 t = some (.tup (ks.map kV)) ∧ H2 p = some (.dT []) ∧ Q (.ref p) (upd H2 p (.dT [(ks, y)]))
theorem pe_disp1 (hu : X.A.units < cLine) (hk : PE X k tk) (hv : PE X v tv) : PE X (.Dict [some k] [v] pos) (tDisp1 tk tv) := by
  intro pins s σ H Q I q
  have hn := I.hok.fresh (Nat.le_refl s.heap.objs.size)
  have I1 := I.laid (a := s.heap.objs.size) (o := .dT []) (h' := s.heap.push { cls := .type "dict", data := .dict #[] }) (t' := s.toks) (fun _ _ q => Heap.get?_push_of_some _ q) (Nat.le_refl _) (dt_empty s.heap I.big)
  have hs : (evalEachOpt [some k] X.env).zip ((evalEach [v] X.env).map fun v => do let x ← v; standAt pos; pure x) = [((eval k X.env), (do let x ← eval v X.env; standAt pos; pure x))].map fun p => (some p.1, p.2) := rfl
  rw [arm_eval_Dict, hs, dictDisplay_pairs _ (by simp) (by simp)]
  refine wpAny_bind (wpAny_standAt (wpAny_bind (sub_heap (knd := tupleKind (mixKind X.prog X.w)) (show (tupleKind (mixKind X.prog X.w)).room X.A from hu) (thn (hk pins _ σ _ _ I1 (q _ hn)) fun kv s1 ⟨x, H1, I2, r1, q1⟩ => wpAny_bind (thn (hv pins s1 σ H1 _ I2 q1) fun vv s2 ⟨y, H2, I3, r2, t, ks, e, ht, hp, q2⟩ => wpAny_bind (wpAny_standAt (wpAny_pure ?_)))))))
  subst e
  cases r1
  obtain ⟨z, hd, xs, rel, dd⟩ := dt_of I3.hok hp
  cases rel
  refine ⟨ks, t, rfl, key_of I3.hok ht, dd, fun h' d' sb t' => wpAny_pure ⟨.ref s.heap.objs.size, _, ?_, rfl, q2⟩⟩
  obtain ⟨o, es, ep, hq, h2, h3, h4, _, h5⟩ := d'
  refine d_write I3 (by rw [hp]; exact True.intro) sb ⟨o, hq⟩ ⟨by show 1 ≤ sizeLine; decide, hd, _, ?_, o, es, ep, hq, h2, h3, h4, h5⟩
  refine .cons ⟨rfl, ?_, r2⟩ .nil
  show upd H2 s.heap.objs.size (.dT [(ks, y)]) t = _
  rw [upd_ne (ne_of ht hp (fun z => nomatch z))]
  exact ht
/-- t + u of tuples, any -/
def rCatA (K : PySem.W.Frag) : R2 := fun x y H Q => ∃ a b xs ys, x = .ref a ∧ y = .ref b ∧ SqT K H a xs ∧ SqT K H b ys ∧ xs.length + ys.length ≤ sizeLine ∧
  (xs = [] → Q (.ref b) H) ∧ (xs ≠ [] → ys = [] → Q (.ref a) H) ∧ (xs ≠ [] → ys ≠ [] → ∀ p, H p = none → Q (.ref p) (upd H p (.tup (xs ++ ys))))
theorem op_catA {K : PySem.W.Frag} (hK : X.K = K) : OpR X (binaryOp .Add) (rCatA K) := by
  subst hK
  intro pins s σ H x y v u Q I rx ry h
  obtain ⟨a, b, xs, ys, rfl, rfl, ha, hb, hz, q0, q1, q2⟩ := h
  by_cases hx : xs = []
  · cases rx
    cases ry
    obtain ⟨its, r1, p1, _⟩ := I.tuple ha
    obtain ⟨its2, r2, p2, _⟩ := I.tuple hb
    have hv : its = [] := r1.nil_iff.mpr hx
    obtain ⟨⟨c1, d1, dat1, sl1⟩, ho, hc, n, hd⟩ := id p1
    obtain ⟨⟨c2, d2, dat2, sl2⟩, ho2, hc2, n2, hd2⟩ := id p2
    simp only at hc hd hc2 hd2
    subst hc hd hc2 hd2
    exact concat_meets ⟨_, ho, rfl⟩ ⟨_, ho2, rfl⟩ noFill_tuple_add seq_tuple_add F.slot_tuple_add F.entry_tuple_add (F.args_tuple_add_2 _ _) (tuple_addW0 a b its.toArray its2.toArray n n2 d1 d2 sl1 sl2 (by simp [hv])) ⟨ho, ho2, .ref b, H, I, rfl, q0 hx⟩
  · exact op_catT pins s σ H _ _ v u Q I rx ry ⟨a, b, xs, ys, rfl, rfl, ha, hb, hx, hz, q1 hx, q2 hx⟩
end
end L2
namespace L2
open PySem PySem.Spec PyProof.Rows
section
variable {d : Addr} {o : Obj} {kvs : List (List Key × V)} {g : TG} {tb : TS} {D : Ends} {σ : St} {H : Hp}
/-- for k in d, the keys tuples -/
theorem for_dT (Pv : Nat → St → Hp → Prop) (h0 : Pv 0 σ H) (hl : ∀ i σ H, i ≤ kvs.length → Pv i σ H → H d = some (.frz o (.dT kvs)))
    (hs : ∀ i k v b σ H, kvs[i]? = some (k, v) → H b = some (.tup (k.map kV)) → Pv i σ H → g (.ref b) σ H fun σ2 H2 => tb { D with nx := Pv (i + 1), ct := Pv (i + 1), bk := D.nx } σ2 H2) (hd : ∀ σ H, Pv kvs.length σ H → D.nx σ H) :
    ∃ W : Nat → Nat → St → Hp → Prop, (∃ m, W 0 m σ H) ∧ ∀ i m σ H, W i m σ H →
      ((ItdT d o kvs).stop i H ∧ D.nx σ H) ∨ ((ItdT d o kvs).go i H ∧ ∃ N : St → Hp → Prop, (∀ σ' H', N σ' H' → ∃ m', m' < m ∧ W (i + 1) m' σ' H') ∧ ∀ x H', (ItdT d o kvs).yld i H x H' → g x σ H' fun σ2 H2 => tb { D with nx := N, ct := N, bk := D.nx } σ2 H2) := by
  refine ⟨fun i m σ H => m = kvs.length - i ∧ i ≤ kvs.length ∧ Pv i σ H, ⟨kvs.length, by simp, Nat.zero_le _, h0⟩, ?_⟩
  rintro i m σ H ⟨rfl, hi, p⟩
  have q := hl i σ H hi p
  by_cases hlt : i < kvs.length
  · refine .inr ⟨⟨hlt, q⟩, Pv (i + 1), fun σ' H' p' => ⟨kvs.length - (i + 1), by omega, rfl, hlt, p'⟩, fun x H' y => ?_⟩
    obtain ⟨rfl, k, v, b, e, rfl, hb⟩ := y
    exact hs i k v b σ _ e hb p
  · have e : i = kvs.length := by omega
    subst e
    exact .inl ⟨⟨Nat.le_refl _, q⟩, hd σ H p⟩
end
end L2
namespace L2
open PySem PySem.Spec PyProof.Rows
section
variable {X : Cx}
end
end L2
set_option Elab.async false
set_option linter.all false
set_option maxRecDepth 100000
set_option maxHeartbeats 4000000
namespace L2
open PySem PySem.Spec PyProof.Rows
/-! ### dict(pairs): a list of pairs whose keys are tuples -/
section
variable {prog : Program} {w : World} {A : Around} {E : Value → Shared → Prop} {s : Shared}
end
section
variable {X : Cx}
variable {pos : Pos} {k v : Expr} {tk tv : TE}
end
end L2
set_option Elab.async false
set_option linter.all false
set_option maxRecDepth 100000
set_option maxHeartbeats 4000000
namespace L2
open PySem PySem.Spec PyProof.Rows PySem.W
/-! ### sorted(d), sum(d.values()): a dict with any keys, its entries as they stand -/
section
variable {prog : Program} {w : World} {A : Around} {E : Value → Shared → Prop} {s : Shared} {d r : Addr} {o : Obj} {es : Array DictEntry} {ep : Nat}
theorem walk_keys (hh : A.handled = none) (it d : Addr) (hne : d ≠ it) (he : o.data = .dict es ep) :
    Walks prog w A it [it, d] [it] es.size (fun i v => ∃ e, es[i]? = some e ∧ v = e.key) (fun i h => h.IsKeyIter it d i es.size ep ∧ h.get? d = some o) where
  sub := fun b hb => by rw [List.mem_singleton.mp hb]; exact List.mem_cons_self ..
  frame := fun _ _ _ st hk => ⟨st.1.at fun o e => hk it (by simp) o e, hk d (by simp) _ st.2⟩
  item := fun i s Q E hi st hQ => keys_item st.1 st.2 he hi fun h' st' sb => hQ _ h' s.toks ⟨es[i], by simp [hi], rfl⟩ ⟨st', (sb.2 d hne).trans st.2⟩ fun b o hb e => sb.extBut b o (fun h => hb (by simp [h])) e
  done := fun s Q E st hQ => keys_end hh st.1 st.2 he (Nat.le_refl _) fun h' eb => hQ h' s.toks fun b o hb e => eb b o (fun h => hb (by simp [h])) e
  self := fun _ _ _ _ st hQ => wpAny_pyIter_keyiter st.1 hQ
theorem src_keys (lo : (d == sysModules) = false) (hx : o.ExactDict) (he : o.data = .dict es ep) : KdlSrc prog w "dict" d d es.size (fun i v => ∃ e, es[i]? = some e ∧ v = e.key) (fun h => h.get? d = some o) where
  type := fun _ hm => ⟨o, hm, hx.1⟩
  there := fun _ hm => ⟨Heap.lt_size hm, Heap.lt_size hm⟩
  keep := fun _ _ hm hk => hk d (.inl rfl) o hm
  notList := by decide
  notTuple := by decide
  hint := fun _ _ s _ hm hq => kdl_hint_dict ⟨o, hm, hx.1⟩ hq
  iter := fun _ s hh hm => ⟨_, _, (fun _ _ hq => keys_begin lo hm hx he hq), walk_keys hh _ d (Nat.ne_of_lt (Heap.lt_size hm)) he, ⟨⟨_, Heap.get?_push_size _ rfl, rfl, rfl⟩, Heap.get?_push_of_some _ hm⟩⟩
/-- the values' own walk -/
theorem vals_begin {v : Addr} {Q : Value → Shared → Prop} (hv : s.heap.IsValuesView v d) (ho : s.heap.get? d = some o) (he : o.data = .dict es ep)
    (k : Q (.ref s.heap.objs.size) { s with heap := s.heap.push { cls := .type "dict_valueiterator", data := .fields #[.ref d, .int 0 0, .int es.size 0, .int ep 0] } }) : wpAny (model prog w) A (pyIter (.ref v)) Q E s := by
  obtain ⟨ov, hov, hcv, hdv⟩ := id hv
  have nown : Builtin.Dict_items.ownsTuple "dict_valueiterator" = false := by decide
  refine wpAny_pyIter_slot hv.typeIs F.slot_dict_values_iter (wpAny_call_entry F.slot_dict_values_iter hv.typeIs F.entry_dict_values_iter (by
    unfold Builtin.«dict_values.__iter__»; refine wpAny_bind (wpAny_pure (wpAny_bind ?_))
    unfold Builtin.Dict_items.dictOf; refine wpAny_bind (wpAny_field hov hdv (x := .ref d) rfl (wpAny_pure (wpAny_bind ?_)))
    unfold Builtin.Dict_items.newIterator; refine wpAny_bind (wpAny_dictEntries ho he (wpAny_bind (wpAny_dictEpoch ho he ?_)))
    rw [nown]; simp only [Bool.false_eq_true, if_false]
    exact wpAny_newObj_type (wpAny_pure ⟨_, rfl, "dict_valueiterator", _, ⟨_, Heap.get?_push_size _ rfl, rfl⟩, F.slot_dict_valueiterator_next.lookup, by simpa [rawInt] using k⟩)) (F.args_dict_values_iter_1 _))
theorem vals_item {i : Nat} {it : Addr} {Q : Option Value → Shared → Prop} (st : s.heap.IsValIter it d i es.size ep) (ho : s.heap.get? d = some o) (he : o.data = .dict es ep) (hi : i < es.size)
    (k : ∀ h', h'.IsValIter it d (i + 1) es.size ep → Heap.SameBut it s.heap h' → Q (some es[i].val) { s with heap := h' }) : wpAny (model prog w) A (pyNext (.ref it)) Q E s := by
  obtain ⟨oi, hoi, ci, di⟩ := id st
  have ty := st.typeIs
  have nown : Builtin.Dict_items.ownsTuple "dict_valueiterator" = false := by decide
  have nneg : ¬ ((i : Int) < 0) := by omega
  have st' : (s.heap.update it (Obj.mapFields (·.setIfInBounds 1 (rawInt ((i : Int) + 1))))).IsValIter it d (i + 1) es.size ep :=
    ⟨_, Heap.get?_update_self _ hoi (Obj.isFreed_of_fields (Obj.data_mapFields di _)), by rw [Obj.cls_mapFields]; exact ci, by rw [Obj.data_mapFields di]; simp [rawInt]⟩
  unfold pyNext
  refine wpAny_bind (wpAny_attempt (wpAny_callSpecial?_slot (name := Str.ofString "__next__") ty F.slot_dict_valueiterator_next (wpAny_call_entry F.slot_dict_valueiterator_next ty F.entry_dict_valueiterator_next (by
    refine wpAny_bind (wpAny_pure (wpAny_bind (wpAny_bind ?_)))
    refine wpAny_bind (wpAny_typeNameOfWhole_valiter ty (wpAny_pure (wpAny_bind (wpAny_fieldsOf hoi di ?_))))
    rw [nown]; simp only [Bool.false_eq_true, if_false]
    show wpAny _ _ (if (Value.ref d == Value.none) = true then _ else _) _ _ s; rw [show (Value.ref d == Value.none) = false from rfl]; rw [if_neg Bool.false_ne_true]
    refine wpAny_bind (wpAny_pure (wpAny_bind (wpAny_dictEntries ho he ?_)))
    rw [if_neg (by simp)]; refine wpAny_bind (wpAny_pure (wpAny_bind (wpAny_dictEpoch ho he ?_))); rw [if_neg (by simp)]; refine wpAny_pure ?_
    simp only [nneg, if_false, Int.toNat_natCast, Array.getElem?_eq_getElem hi]
    refine wpAny_bind (wpAny_bind (wpAny_typeNameOfWhole_valiter ty (wpAny_pure (wpAny_bind (wpAny_isOneOf_valiter ty ?_)))))
    show wpAny _ _ (setField (.ref it) 1 (rawInt ((i : Int) + 1)) >>= _) _ _ s; refine wpAny_bind (wpAny_setField hoi di (by simp) ?_)
    refine wpAny_bind (wpAny_holding (wpAny_bind (wpAny_isOneOf_valiter (s := { s with heap := s.heap.update it (Obj.mapFields (·.setIfInBounds 1 (rawInt ((i : Int) + 1)))) }) st'.typeIs ?_)))
    refine wpAny_bind (wpAny_isOneOf_valiter (s := { s with heap := s.heap.update it (Obj.mapFields (·.setIfInBounds 1 (rawInt ((i : Int) + 1)))) }) st'.typeIs ?_); show wpAny _ _ (pure es[i].val) _ _ _
    exact wpAny_pure (wpAny_pure ⟨_, rfl, wpAny_pure (k _ st' (Heap.SameBut.update ..))⟩)) (F.args_dict_valueiterator_next_1 _))))
theorem vals_end {i : Nat} {it : Addr} {Q : Option Value → Shared → Prop} (calm : A.handled = none) (st : s.heap.IsValIter it d i es.size ep) (ho : s.heap.get? d = some o) (he : o.data = .dict es ep) (hi : es.size ≤ i)
    (k : ∀ h', Heap.ExtBut it s.heap h' → Q none { s with heap := h' }) : wpAny (model prog w) A (pyNext (.ref it)) Q E s := by
  obtain ⟨oi, hoi, ci, di⟩ := id st
  have ty := st.typeIs
  have nown : Builtin.Dict_items.ownsTuple "dict_valueiterator" = false := by decide
  have nneg : ¬ ((i : Int) < 0) := by omega
  unfold pyNext
  refine wpAny_bind (wpAny_attempt (wpAny_callSpecial?_slot (name := Str.ofString "__next__") ty F.slot_dict_valueiterator_next (wpAny_call_entry F.slot_dict_valueiterator_next ty F.entry_dict_valueiterator_next (by
    refine wpAny_bind (wpAny_pure (wpAny_bind (wpAny_bind ?_)))
    refine wpAny_bind (wpAny_typeNameOfWhole_valiter ty (wpAny_pure (wpAny_bind (wpAny_fieldsOf hoi di ?_))))
    rw [nown]; simp only [Bool.false_eq_true, if_false]
    show wpAny _ _ (if (Value.ref d == Value.none) = true then _ else _) _ _ s; rw [show (Value.ref d == Value.none) = false from rfl]; rw [if_neg Bool.false_ne_true]
    refine wpAny_bind (wpAny_pure (wpAny_bind (wpAny_dictEntries ho he ?_)))
    rw [if_neg (by simp)]; refine wpAny_bind (wpAny_pure (wpAny_bind (wpAny_dictEpoch ho he ?_))); rw [if_neg (by simp)]; refine wpAny_pure ?_
    simp only [nneg, if_false, Int.toNat_natCast, Array.getElem?_eq_none hi]
    refine wpAny_bind (wpAny_bind (wpAny_typeNameOfWhole_valiter ty (wpAny_pure ?_)))
    show wpAny _ _ (setField (.ref it) 0 .none >>= _) _ _ s; refine wpAny_bind (wpAny_setField hoi di (by simp) ?_)
    show wpAny _ _ (newExc (.type "StopIteration") [] >>= _) _ _ _; refine wpAny_bind ?_
    simp only [newExc, newTuple]; refine wpAny_bind (wpAny_newObj_type ?_ (by size_fits))
    refine wpAny_bind (m := firstArgMember _ _) (wpAny_of_eq (a := Value.none) (by first | rfl | (simp only [firstArgMember]; rfl)) (wpAny_newObj_type ?_ (by size_fits)))
    simp only [raiseNew]; refine wpAny_bind (wpAny_handled ?_); rw [show A.in1.handled = none from calm]
    refine wpAny_bind (wpAny_pure (wpAny_throw ?_)); refine wpAny_bind (wpAny_isInstance (T := "StopIteration") (b := true) ⟨_, Heap.get?_push_size _ rfl, rfl⟩ isSubtype_stop ?_)
    exact wpAny_pure (k _ (((Heap.SameBut.update ..).extBut.push _).push _))) (F.args_dict_valueiterator_next_1 _))))
theorem walk_vals (hh : A.handled = none) (it d : Addr) (hne : d ≠ it) (he : o.data = .dict es ep) :
    Walks prog w A it [it, d] [it] es.size (fun i v => ∃ e, es[i]? = some e ∧ v = e.val) (fun i h => h.IsValIter it d i es.size ep ∧ h.get? d = some o) where
  sub := fun b hb => by rw [List.mem_singleton.mp hb]; exact List.mem_cons_self ..
  frame := fun _ _ _ st hk => ⟨st.1.at fun o e => hk it (by simp) o e, hk d (by simp) _ st.2⟩
  item := fun i s Q E hi st hQ => vals_item st.1 st.2 he hi fun h' st' sb => hQ _ h' s.toks ⟨es[i], by simp [hi], rfl⟩ ⟨st', (sb.2 d hne).trans st.2⟩ fun b o hb e => sb.extBut b o (fun h => hb (by simp [h])) e
  done := fun s Q E st hQ => vals_end hh st.1 st.2 he (Nat.le_refl _) fun h' eb => hQ h' s.toks fun b o hb e => eb b o (fun h => hb (by simp [h])) e
  self := fun _ _ _ _ st hQ => wpAny_pyIter_valiter st.1 hQ
theorem src_vals {v : Addr} (he : o.data = .dict es ep) : KdlSrc prog w "dict_values" v d es.size (fun i u => ∃ e, es[i]? = some e ∧ u = e.val) (fun h => h.IsValuesView v d ∧ h.get? d = some o) where
  type := fun _ hm => hm.1.typeIs
  there := fun _ hm => ⟨let ⟨_, ho, _⟩ := hm.1; Heap.lt_size ho, Heap.lt_size hm.2⟩
  keep := fun _ _ hm hk => ⟨let ⟨o, ho, x⟩ := hm.1; ⟨o, hk v (.inl rfl) o ho, x⟩, hk d (.inr rfl) o hm.2⟩
  notList := by decide
  notTuple := by decide
  hint := fun _ _ s _ hm hq => kdl_hint_values hm.1.typeIs hq
  iter := fun _ s hh hm => ⟨_, _, (fun _ _ hq => vals_begin hm.1 hm.2 he hq), walk_vals hh _ d (Nat.ne_of_lt (Heap.lt_size hm.2)) he, ⟨⟨_, Heap.get?_push_size _ rfl, rfl, rfl⟩, Heap.get?_push_of_some _ hm.2⟩⟩
end
end L2
namespace Tim
open PySem PySem.W PyProof.Rows
section
variable {prog : Program} {w : World} {A : Around} {E : Value → Shared → Prop} {s : Shared} {T : String} {r d : Addr} {n : Nat} {P : Nat → Value → Prop} {OK : Heap → Prop}
/-- sorted of what is walked -/
theorem sorted_src {Q : Value → Shared → Prop} (S : KdlSrc prog w T r d n P OK) (hh : A.handled = none) (hok : OK s.heap) (hn : n ≤ sizeLine)
    (h : ∀ (vs : List Value) (tk : Nat), vs.length = n → (∀ i v, vs[i]? = some v → P i v) → ∃ (κ : SortKind) (rk : Value → Nat),
      (2 ≤ vs.length → ∀ h' : Heap, (∀ b o, s.heap.get? b = some o → h'.get? b = some o) → (∀ (Q : SortKind → Shared → Prop) (E : Value → Shared → Prop), Q κ { s with heap := h', toks := tk } → wpAny (model prog w) A.in1.in1 (keyKind' vs.toArray) Q E { s with heap := h', toks := tk }) ∧ Cmp prog w A.in1.in1 { s with heap := h', toks := tk } κ (pairsOf vs) rk) ∧
      ∀ (h0 h' : Heap) (D : Addr) (c : Nat) (out : List Value), (∀ b o, s.heap.get? b = some o → h0.get? b = some o) → (∀ b o, h0.get? b = some o → h'.get? b = some o) → h0.objs.size ≤ D → h'.get? D = some (seqObj "list" out.toArray c) → out.Perm vs → out.Pairwise (fun x y => rk x ≤ rk y) → Q (.ref D) { s with heap := h', toks := tk }) :
    wpAny (model prog w) A (call (.builtin "sorted") [.ref r]) Q E s := by
  refine Calls.call_function_entry kind_sorted plain_sorted entry_sorted (args_sorted1 _) ?_
  unfold Builtin.«sorted»
  refine wpAny_bind (m := checkCount "sorted" 1 1 _) (wpAny_pure ?_)
  refine wpAny_bind (kdu_collect S (show A.in1.handled = none from hh) hok hn fun h0 tk acc keep0 hacc => ?_)
  obtain ⟨κ, rk, hk, fin⟩ := h acc.toList tk (by rw [Array.length_toList]; exact hacc.1) fun i v e => hacc.2 i v (by rw [← Array.getElem?_toList]; exact e)
  have hz : acc.toList.length ≤ sizeLine := by rw [Array.length_toList, hacc.1]; exact hn
  generalize acc.toList = vs at hk fin hz ⊢
  refine wpAny_bind (wpAny_newList ?_ hz)
  have lt0 : ∀ b o, h0.get? b = some o → b < h0.objs.size := fun b o e => Heap.lt_size e
  have hoL : (h0.push (seqObj "list" vs.toArray 0)).get? h0.objs.size = some (seqObj "list" vs.toArray 0) := Heap.get?_push_size _ rfl
  have keep : ∀ b o, h0.get? b = some o → (h0.push (seqObj "list" vs.toArray 0)).get? b = some o := fun b o q => Heap.get?_push_of_some _ q
  show wpAny _ _ _ _ _ { s with heap := h0.push (seqObj "list" vs.toArray 0), toks := tk }
  generalize h0.push (seqObj "list" vs.toArray 0) = h1 at keep hoL ⊢
  have le0 := Nat.le_refl h0.objs.size
  generalize e0 : h0.objs.size = Dl at hoL lt0 ⊢
  rw [e0] at le0
  have nD : ∀ b o, h0.get? b = some o → b ≠ Dl := fun b o e => Nat.ne_of_lt (lt0 b o e)
  refine wpAny_bind (wpAny_holding (wpAny_call_entry slot_list_sort ⟨_, hoL, rfl⟩ entry_list_sort (list_sort_any (s := { s with heap := h1, toks := tk }) hoL hz (fun h2 h' kp => hk h2 h' fun b o e => kp b o (nD b o (keep0 b o e)) (keep b o (keep0 b o e))) fun out p1 p2 => ⟨_, rfl, ?_⟩) (args_list_sort _)))
  refine wpAny_pure ⟨_, rfl, ?_⟩
  obtain ⟨e1, ho1⟩ : ∃ e1, (h1.update Dl (Obj.mapSeq fun _ => #[])).get? Dl = some (seqObj "list" #[] e1) := ⟨_, get?_update_seq hoL (fun _ => #[])⟩
  have ho2 : (((h1.update Dl (Obj.mapSeq fun _ => #[])).push (seqObj "tuple" vs.toArray 0)).push (seqObj "list" #[] 0)).get? Dl = some (seqObj "list" #[] e1) := Heap.get?_push_of_some _ (Heap.get?_push_of_some _ ho1)
  refine fin h0 (sortedHeap h1 Dl vs out.toArray) Dl _ out keep0 (fun b o e => ?_) (Nat.le_of_eq e0) (by unfold sortedHeap; exact get?_update_seq ho2 (fun _ => out.toArray)) p1 p2
  unfold sortedHeap
  rw [Heap.get?_update_ne _ _ _ _ (nD b o e)]
  refine Heap.get?_push_of_some _ (Heap.get?_push_of_some _ ?_)
  rw [Heap.get?_update_ne _ _ _ _ (nD b o e)]
  exact keep b o e
end
end Tim
namespace L2
open PySem PySem.Spec PyProof.Rows PySem.W
section
variable {prog : Program} {w : World} {d : Addr}
theorem vals_heap (z : (d == sysModules) = false) : MeetsIn prog w (Builtin.«dict.values» ⟨[.ref d], []⟩) (fun _ R s => s.TypeIs (.ref d) "dict" ∧ R (.ok (.ret (.ref s.heap.objs.size))) { s with heap := s.heap.push { cls := .type "dict_values", data := .fields #[.ref d] } }) :=
  .of_wp fun A R s ⟨ty, h⟩ => by
    refine wpAny_bind ?_
    unfold Builtin.Dict.noArgs
    refine wpAny_bind (wpAny_notOrdered_dict ty ?_); show wpAny _ _ (pure d) _ _ s
    refine wpAny_pure ?_; show wpAny _ _ (Builtin.Dict.showsAll d >>= _) _ _ s
    unfold Builtin.Dict.showsAll; rw [if_neg (by rw [z]; exact Bool.false_ne_true)]
    exact wpAny_bind (wpAny_pure (wpAny_bind (wpAny_newObj_type (wpAny_pure ⟨_, rfl, h⟩))))
theorem pre_sum : ∀ (ns : List Int) (f : Nat → Int), (∀ i n, ns[i]? = some n → f i = n) → preSum f ns.length = ns.sum
  | [], _, _ => rfl
  | n :: ns, f, h => by
    rw [List.length_cons, kdu_shift, h 0 n rfl, pre_sum ns (fun i => f (i + 1)) fun i m e => h (i + 1) m (by simpa using e), List.sum_cons]
theorem paired_at {α β : Type} {R : α → β → Prop} {as : List α} {bs : List β} (r : Paired R as bs) : ∀ {i : Nat} {b : β}, bs[i]? = some b → ∃ a, as[i]? = some a ∧ R a b := by
  induction r with
  | nil => intro i b e; cases e
  | @cons a b as bs h r ih =>
    intro i c e
    cases i with
    | zero => cases e; exact ⟨a, rfl, h⟩
    | succ i => exact ih (by simpa using e)
end
section
variable {X : Cx}
/-- the view of a dict's values -/
abbrev ViewO (p d : Addr) : HO := .ext fun h => h.IsValuesView p d
def rValsT : V → List V → Hp → VK → Prop := fun x xs H Q => ∃ (d : Addr) (kvs : List (List Key × V)), x = .ref d ∧ xs = [] ∧ H d = some (.dT kvs) ∧ ∀ p, H p = none → Q (.ref p) (upd H p (ViewO p d))
theorem mt_valsT : MtR X "dict.values" rValsT := by
  intro pins s σ H x vs v us Q I rx rv h
  obtain ⟨d, kvs, rfl, rfl, ed, q⟩ := h
  cases rx
  cases rv
  obtain ⟨_, lo, ys, rel, dd⟩ := dt_of I.hok ed
  refine call_meetsIn PySem.F.slot_dict_values dd.typeIs PySem.F.entry_dict_values (PySem.F.args_dict_values_1 _) (vals_heap lo) ⟨dd.typeIs, ?_⟩
  refine ⟨.ref s.heap.objs.size, _, I.laid (t' := s.toks) (o := ViewO s.heap.objs.size d) (fun b o e => Heap.get?_push_of_some _ e) (Nat.le_refl _) ⟨⟨_, Heap.get?_push_size _ rfl, rfl, rfl⟩, ⟨_, Heap.get?_push_size _ rfl⟩, fun h1 h2 ⟨o, e, z⟩ kp => ⟨o, kp o e, z⟩⟩, rfl, q _ (I.hok.fresh (Nat.le_refl _))⟩
def rSumV : List V → Hp → VK → Prop := fun xs H Q => ∃ (p d : Addr) (kvs : List (List Key × V)) (ns : List Int), xs = [.ref p] ∧ H p = some (ViewO p d) ∧ H d = some (.dT kvs) ∧ kvs.map (·.2) = ns.map V.int ∧ Q (.int ns.sum) H
theorem call_sumV (hc : X.calm = true) : CallR X (.builtin "sum") rSumV := by
  intro pins s σ H xs us Q I r h
  obtain ⟨p, d, kvs, ns, rfl, hp, hd, en, q⟩ := h
  obtain ⟨u, rfl, ru⟩ := vals1 r
  cases ru
  have hv : s.heap.IsValuesView p d := (show ObjOk X.prog X.w H s.heap p (ViewO p d) from I.hok p _ hp).1
  obtain ⟨z, lo, ys, rel, o, es, ep, ho, hx, he, hes, _⟩ := (show ObjOk X.prog X.w H s.heap d (.dT kvs) from I.hok d _ hd)
  have S := src_vals (prog := X.prog) (w := X.w) (v := p) (d := d) (o := o) he
  have lk : kvs.length = ys.length := Paired.length rel
  have le : es.size = ys.length := by rw [← Array.length_toList, hes, List.length_map]
  have ln : ns.length = kvs.length := by have := congrArg List.length en; simpa using this.symm
  refine call_sum_walkAnyS ?_
  obtain ⟨oI, St, hit, W, st⟩ := S.iter X.A.in1 s (show X.A.handled = none from I.ok.hd hc) ⟨hv, ho⟩
  refine hit _ _ ⟨s.heap.objs.size, _, _, _, es.size, _, _, fun i => (ns[i]?).getD 0, rfl, W.toS, st, fun b hb => ?_, fun i v hv => ?_, fun s' t' hm => ?_⟩
  · show b < (s.heap.push oI).objs.size
    rw [Heap.size_push]
    rcases List.mem_cons.mp hb with e | hb
    · rw [e]; exact Nat.lt_succ_self _
    · rw [List.mem_singleton.mp hb]; exact Nat.lt_succ_of_lt (Heap.lt_size ho)
  · obtain ⟨e, ee, rfl⟩ := hv
    rw [← Array.getElem?_toList, hes, List.getElem?_map] at ee
    cases ey : ys[i]? with
    | none => rw [ey] at ee; cases ee
    | some y =>
      rw [ey] at ee
      cases ee
      obtain ⟨a, ea, _, _, ra⟩ := paired_at rel ey
      have e2 : (kvs.map (·.2))[i]? = some a.2 := by rw [List.getElem?_map, ea]; rfl
      rw [en, List.getElem?_map] at e2
      cases en' : ns[i]? with
      | none => rw [en'] at e2; cases e2
      | some n =>
        rw [en'] at e2
        have : a.2 = V.int n := (Option.some.inj e2).symm
        rw [this] at ra
        obtain ⟨t, ht⟩ := ra
        exact ⟨t, by show y.2.2 = _; rw [ht]; simp [en']⟩
  · have hk : ∀ b o, s.heap.get? b = some o → s'.heap.get? b = some o := fun b o e =>
      hm.heap b o (fun hI => absurd (Heap.lt_size e) (by rw [List.mem_singleton.mp hI]; exact Nat.lt_irrefl _)) (Heap.get?_push_of_some _ e)
    rw [Moved.eq_with hm]
    refine ⟨.int ns.sum, H, I.kept (t' := s'.toks) hk, ⟨t', ?_⟩, q⟩
    rw [show es.size = ns.length by omega, pre_sum ns _ fun i n e => by rw [e]; rfl]
/-- the numbers of a tuple -/
def intsAt (H : Hp) : V → List Int
  | .ref a => match H a with
    | some (.tup xs) => xs.map fun x => match x with
      | .int n => n
      | _ => 0
    | _ => []
  | _ => []
theorem intsAt_tup {H : Hp} {a : Addr} {ns : List Int} (e : H a = some (.tup (ns.map V.int))) : intsAt H (.ref a) = ns := by
  unfold intsAt
  dsimp only
  rw [e]
  dsimp only
  rw [List.map_map]
  exact (List.map_congr_left fun x _ => rfl).trans (List.map_id ns)
def rSortD : List V → Hp → VK → Prop := fun xs H Q => ∃ (d : Addr) (kvs : List (List Key × V)) (k : Nat) (ls : List (List Int)), xs = [.ref d] ∧ H d = some (.dT kvs) ∧ kvs.map (·.1) = ls.map (fun l => l.map (Sum.inl (β := Str))) ∧ 1 ≤ k ∧ (∀ l ∈ ls, l.length = k) ∧
  ∀ (p : Addr) (zs : List V) (ms : List (List Int)), H p = none → ms.Perm ls → ms.Pairwise (fun x y => Tim.lexB y x = false) → zs.length = ms.length → (∀ (i : Nat) m, ms[i]? = some m → ∃ a, zs[i]? = some (.ref a) ∧ H a = some (.tup (m.map V.int))) → Q (.ref p) (upd H p (.lst zs))
theorem call_sortD (hc : X.calm = true) : CallR X (.builtin "sorted") rSortD := by
  intro pins s σ H xs us Q I r h
  obtain ⟨d, kvs, k, ls, rfl, hd, ek, hk, hl, q⟩ := h
  obtain ⟨u, rfl, ru⟩ := vals1 r
  cases ru
  obtain ⟨z, lo, ys, rel, o, es, ep, ho, hx, he, hes, _⟩ := (show ObjOk X.prog X.w H s.heap d (.dT kvs) from I.hok d _ hd)
  have lk : kvs.length = ys.length := Paired.length rel
  have le : es.size = ys.length := by rw [← Array.length_toList, hes, List.length_map]
  have at' : ∀ (i : Nat) y, ys[i]? = some y → ∃ l, ls[i]? = some l ∧ H y.2.1 = some (.tup (l.map V.int)) := fun i y ey => by
    obtain ⟨a, ea, e1, e2, _⟩ := paired_at rel ey
    have e3 : (kvs.map (·.1))[i]? = some a.1 := by rw [List.getElem?_map, ea]; rfl
    rw [ek, List.getElem?_map] at e3
    cases el : ls[i]? with
    | none => rw [el] at e3; cases e3
    | some l =>
      rw [el] at e3
      have : a.1 = l.map (Sum.inl (β := Str)) := (Option.some.inj e3).symm
      rw [this, List.map_map] at e2
      exact ⟨l, rfl, e2⟩
  have lls : ls.length = ys.length := by have := congrArg List.length ek; simp at this; omega
  refine Tim.sorted_src (src_keys lo hx he) (I.ok.hd hc) ho (by rw [le, ← lk]; exact z) fun vs tk hv hP => ?_
  have ev : vs = ys.map fun q => Value.ref q.2.1 := by
    refine List.ext_getElem? fun i => ?_
    cases e : vs[i]? with
    | none =>
      rw [List.getElem?_eq_none_iff] at e
      rw [List.getElem?_eq_none (by rw [List.length_map]; omega)]
    | some v =>
      obtain ⟨en, ee, rfl⟩ := hP i v e
      rw [← Array.getElem?_toList, hes, List.getElem?_map] at ee
      cases ey : ys[i]? with
      | none => rw [ey] at ee; cases ee
      | some y =>
        rw [ey] at ee
        cases ee
        rw [List.getElem?_map, ey]
        rfl
  have rv : ∀ l : List (List Key × Addr × Value), Vals (l.map fun q => V.ref q.2.1) (l.map fun q => Value.ref q.2.1) := fun l => by
    induction l with
    | nil => exact .nil
    | cons a l ih => exact .cons rfl ih
  have tf : ∀ q ∈ ys, ∃ l, l ∈ ls ∧ H q.2.1 = some (.tup (l.map V.int)) := fun q hq => by
    obtain ⟨i, hi, e⟩ := List.getElem_of_mem hq
    obtain ⟨l, el, eh⟩ := at' i q (by rw [List.getElem?_eq_getElem hi, e])
    exact ⟨l, List.mem_of_getElem? el, eh⟩
  have item : ∀ q ∈ ys, ∃ jts, IsTup s.heap q.2.1 jts.toArray ∧ IntsAre jts (intsAt H (.ref q.2.1)) ∧ (intsAt H (.ref q.2.1)).length = k := fun q hq => by
    obtain ⟨l, hl', eh⟩ := tf q hq
    obtain ⟨jts, rj, tj, _⟩ := I.tuple (SqT.of eh)
    rw [intsAt_tup eh]
    exact ⟨jts, tj, ints_vals rj, hl l hl'⟩
  have T : Tups1 s.heap k vs := fun v hv' => by
    rw [ev] at hv'
    obtain ⟨y, hy, rfl⟩ := List.mem_map.mp hv'
    obtain ⟨jts, e1, e2, e3⟩ := item y hy
    exact ⟨_, jts, _, rfl, e1, e2, e3⟩
  refine ⟨tuples' true, Tim.rankBy (fun a b => Tim.lexB (keyOf s.heap a) (keyOf s.heap b)) vs, fun h2 h' kp => ⟨fun Q E hQ => tups_kind (s := { s with heap := h', toks := tk }) hk T h2 kp hQ, tups_cmp (s := { s with heap := h', toks := tk }) T kp⟩, fun h0 h' D c out k0 kp hD hdl hp hs => ?_⟩
  have rvs : Vals (ys.map fun q => V.ref q.2.1) vs := by rw [ev]; exact rv ys
  obtain ⟨zs, z1, z2⟩ := vals_perm rvs hp
  have hzl : zs.length ≤ sizeLine := by rw [z2.length_eq, List.length_map, ← lk]; exact z
  have I1 : Inv X pins σ H { s with heap := h0, toks := tk } := I.kept (t' := tk) k0
  have zat : ∀ x ∈ zs, ∃ q ∈ ys, x = V.ref q.2.1 := fun x hx' => by
    obtain ⟨q, hq, e⟩ := List.mem_map.mp (z2.mem_iff.mp hx')
    exact ⟨q, hq, e.symm⟩
  refine ⟨.ref D, _, I1.laid (t' := tk) kp hD (show ObjOk X.prog X.w _ h' _ (.lst zs) from ⟨hzl, out, c, z1, hdl⟩), rfl, q D zs (zs.map (intsAt H)) (I1.hok.fresh hD) ?_ ?_ (by rw [List.length_map]) fun i m e => ?_⟩
  · have := z2.map (intsAt H)
    have e : (ys.map fun q => V.ref q.2.1).map (intsAt H) = ls := by
      refine List.ext_getElem (by simp; omega) fun i h1 h2 => ?_
      obtain ⟨l, el, eh⟩ := at' i ys[i] (by simp)
      rw [List.getElem?_eq_getElem h2] at el
      cases el
      simp only [List.getElem_map]
      exact intsAt_tup eh
    rw [e] at this
    exact this
  · have hs' : out.Pairwise (fun u v => u ∈ vs ∧ v ∈ vs ∧ Tim.lexB (keyOf s.heap v) (keyOf s.heap u) = false) := by
      refine List.Pairwise.imp_of_mem (fun {u v} hu hv huv => ?_) hs
      have mu := hp.mem_iff.mp hu
      have mv := hp.mem_iff.mp hv
      exact ⟨mu, mv, Tim.rank_le (Tim.swo_key (keyOf s.heap)) mv huv⟩
    rw [List.pairwise_map]
    refine vals_pair (fun x y u v rx ry huv => ?_) z1 hs'
    obtain ⟨hu, hv', hlt⟩ := huv
    rw [ev] at hu hv'
    obtain ⟨q1, hq1, rfl⟩ := List.mem_map.mp hu
    obtain ⟨q2, hq2, rfl⟩ := List.mem_map.mp hv'
    obtain ⟨j1, a1, a2, a3⟩ := item q1 hq1
    obtain ⟨j2, b1, b2, b3⟩ := item q2 hq2
    rw [keyOf_tup a1 a2, keyOf_tup b1 b2] at hlt
    have ex : x = V.ref q1.2.1 := by
      cases x with
      | ref a => cases rx; rfl
      | int n => obtain ⟨t, e⟩ := rx; cases e
      | str n => obtain ⟨t, e⟩ := rx; cases e
      | byt n => obtain ⟨t, e⟩ := rx; cases e
      | flt n => obtain ⟨t, e⟩ := rx; cases e
      | bl b => cases rx
      | non => cases rx
      | _ => cases rx
    have ey : y = V.ref q2.2.1 := by
      cases y with
      | ref a => cases ry; rfl
      | int n => obtain ⟨t, e⟩ := ry; cases e
      | str n => obtain ⟨t, e⟩ := ry; cases e
      | byt n => obtain ⟨t, e⟩ := ry; cases e
      | flt n => obtain ⟨t, e⟩ := ry; cases e
      | bl b => cases ry
      | non => cases ry
      | _ => cases ry
    rw [ex, ey]
    exact hlt
  · rw [List.getElem?_map] at e
    cases ez : zs[i]? with
    | none => rw [ez] at e; cases e
    | some x =>
      rw [ez] at e
      obtain ⟨q, hq, rfl⟩ := zat x (List.mem_of_getElem? ez)
      obtain ⟨l, _, eh⟩ := tf q hq
      have em : m = l := by rw [← Option.some.inj e]; exact intsAt_tup eh
      rw [em]
      exact ⟨_, rfl, eh⟩
end
end L2
set_option Elab.async false
set_option linter.all false
set_option maxRecDepth 100000
set_option maxHeartbeats 4000000
namespace L2
open PySem PySem.Spec PyProof.Rows
/-! ### [[1, 2], [3], ..]: lists of many lists of constant numbers -/
def cInts : List Expr → List Int → Bool
  | [], [] => true
  | .Constant (.int i) _ _ :: es, n :: ns => decide (i = n) && cInts es ns
  | _, _ => false
def cLists : List Expr → List (List Int) → Bool
  | [], [] => true
  | .List xs _ :: es, n :: ns => cInts xs n && cLists es ns
  | _, _ => false
def tInts : List Int → TA
  | [] => tNil
  | n :: ns => tCons (tC (.int n)) (tInts ns)
def tLists : List (List Int) → TA
  | [] => tNil
  | n :: ns => tCons (tLst (tInts n)) (tLists ns)
section
variable {X : Cx}
theorem pa_ints : ∀ {es : List Expr} (ns : List Int), cInts es ns = true → PA X es (tInts ns)
  | [], [], _ => pa_nil
  | [], _ :: _, h => by simp [cInts] at h
  | e :: es, [], h => by unfold cInts at h; split at h <;> simp_all
  | e :: es, y :: ys, h => by
    unfold cInts at h
    split at h
    · simp_all
    · rename_i h1 h2
      injection h1 with a b
      injection h2 with c d
      subst a b c d
      simp only [Bool.and_eq_true, decide_eq_true_eq] at h
      obtain ⟨rfl, h⟩ := h
      exact pa_cons pe_int (pa_ints _ h)
    · cases h
theorem pa_lists : ∀ {es : List Expr} (ns : List (List Int)), cLists es ns = true → PA X es (tLists ns)
  | [], [], _ => pa_nil
  | [], _ :: _, h => by simp [cLists] at h
  | e :: es, [], h => by unfold cLists at h; split at h <;> simp_all
  | e :: es, y :: ys, h => by
    unfold cLists at h
    split at h
    · simp_all
    · rename_i h1 h2
      injection h1 with a b
      injection h2 with c d
      subst a b c d
      simp only [Bool.and_eq_true] at h
      exact pa_cons (pe_lst (pa_ints _ h.1)) (pa_lists _ h.2)
    · cases h
theorem ints_use (ns : List Int) {σ : St} : ∀ {H : Hp} {Q : List V → Hp → Prop}, Q (ns.map V.int) H → tInts ns σ H Q := by
  induction ns with
  | nil => intro H Q h; exact h
  | cons n ns ih => intro H Q h; exact ih h
/-- the new lists, one by one -/
def NewL (H : Hp) : List (List Int) → List Addr → Hp → Prop
  | [], [], H' => H' = H
  | n :: ns, p :: ps, H' => H p = none ∧ NewL (upd H p (.lst (n.map V.int))) ns ps H'
  | _, _, _ => False
theorem lists_use : ∀ (ns : List (List Int)) {σ : St} {H : Hp} {Q : List V → Hp → Prop}, (∀ n ∈ ns, n.length ≤ 1000) → (∀ ps H', NewL H ns ps H' → Q (ps.map V.ref) H') → tLists ns σ H Q
  | [], σ, H, Q, _, h => h [] H rfl
  | n :: ns, σ, H, Q, hl, h => by
    refine ints_use n ⟨?_, fun p hp => ?_⟩
    · rw [List.length_map, sizeLine_eq]
      have := hl n (by simp)
      omega
    · exact lists_use ns (fun m hm => hl m (by simp [hm])) fun ps H' N => h (p :: ps) H' ⟨hp, N⟩
def tNewLs (ns : List (List Int)) : TA := fun _ H Q => ∀ ps H', NewL H ns ps H' → ps.length = ns.length → Q (ps.map V.ref) H'
theorem NewL.len : ∀ {ns : List (List Int)} {ps : List Addr} {H H' : Hp}, NewL H ns ps H' → ps.length = ns.length
  | [], [], _, _, _ => rfl
  | _ :: ns, p :: ps, _, _, h => by rw [List.length_cons, List.length_cons, NewL.len h.2]
theorem pe_lstLL {es : List Expr} {pos : Pos} (ns : List (List Int)) (h : (cLists es ns && ns.all fun n => decide (n.length ≤ 1000)) = true) : PE X (.List es pos) (tLst (tNewLs ns)) := by
  rw [Bool.and_eq_true, List.all_eq_true] at h
  refine pe_lst fun pos pins s σ H Q I q => pa_lists ns h.1 pos pins s σ H Q I (lists_use ns (fun n hn => of_decide_eq_true (h.2 n hn)) fun ps H' N => q ps H' N N.len)
theorem NewL.same : ∀ {ns : List (List Int)} {ps : List Addr} {H H' : Hp}, NewL H ns ps H' → Same H H'
  | [], [], _, _, h => by cases h; exact Same.refl _
  | _ :: ns, p :: ps, H, H', ⟨hp, N⟩ => (same_new hp).trans N.same
theorem NewL.at : ∀ {ns : List (List Int)} {ps : List Addr} {H H' : Hp}, NewL H ns ps H' → ∀ (i : Nat) n, ns[i]? = some n → ∃ p, ps[i]? = some p ∧ H p = none ∧ H' p = some (.lst (n.map V.int))
  | [], _, _, _, _, i, n, e => by cases e
  | _ :: _, [], _, _, h, _, _, _ => h.elim
  | m :: ns, p :: ps, H, H', ⟨hp, N⟩, i, n, e => by
    cases i with
    | zero =>
      have : m = n := Option.some.inj e
      subst this
      exact ⟨p, rfl, hp, N.same _ _ upd_same⟩
    | succ i =>
      obtain ⟨q, e1, e2, e3⟩ := N.at i n (by simpa using e)
      refine ⟨q, by simpa using e1, ?_, e3⟩
      have : q ≠ p := fun z => by rw [z, upd_same] at e2; cases e2
      rwa [upd_ne this] at e2
end
end L2
set_option Elab.async false
set_option linter.all false
set_option maxRecDepth 100000
set_option maxHeartbeats 4000000



namespace Prf
open PySem L2
def top (i : Nat) : Stmt := PySem.Challenge.pw_fewnotes_k41_cuts_and_orders_counted.main.body.getD i (.Pass ⟨0, 0, 0, 0⟩)
abbrev s_is_whole : Stmt := top 5
abbrev s_is_below : Stmt := top 6
abbrev s_is_note : Stmt := top 8
abbrev s_how_many_cuts : Stmt := top 10
abbrev s_how_many_orders : Stmt := top 11
abbrev s_check_notes : Stmt := top 12
abbrev s_is_between : Stmt := top 13
abbrev s_has : Stmt := top 14
abbrev s_firsts_of : Stmt := top 15
abbrev s_is_free : Stmt := top 16
abbrev s_free_hands : Stmt := top 17
abbrev s_ways_to_cuts : Stmt := top 18
abbrev s_Lbag : Stmt := top 20
abbrev s_Lstir : Stmt := top 21
abbrev s_Ldraw : Stmt := top 22
abbrev s_Lcounts : Stmt := top 23
abbrev s_Lorder : Stmt := top 24
abbrev s_Lspots : Stmt := top 25
abbrev s_Lnote : Stmt := top 26
abbrev s_Lrecord : Stmt := top 27
abbrev s_Lcopy : Stmt := top 28
abbrev s_Lwide : Stmt := top 29
abbrev s_Llayer : Stmt := top 30
abbrev s_Lcounted : Stmt := top 31
abbrev s_Lcuts : Stmt := top 32
abbrev s_Lorders : Stmt := top 33
abbrev s_Lis : Stmt := top 34
abbrev s_law : Stmt := top 35
structure Blt (mg : Str → Option Value) : Prop where
  b_ValueError : mg "ValueError" = none
  b_all : mg "all" = none
  b_bool : mg "bool" = none
  b_int : mg "int" = none
  b_isinstance : mg "isinstance" = none
  b_len : mg "len" = none
  b_list : mg "list" = none
  b_max : mg "max" = none
  b_min : mg "min" = none
  b_range : mg "range" = none
  b_sorted : mg "sorted" = none
  b_sum : mg "sum" = none
  b_tuple : mg "tuple" = none
theorem sc_is_whole : FnScope ["value"] ["value"] (defScope s_is_whole) := ⟨rfl, rfl, rfl, by decide +kernel, rfl, by decide +kernel, by decide +kernel⟩
theorem sc_is_below : FnScope ["value", "count"] ["value", "count"] (defScope s_is_below) := ⟨rfl, rfl, rfl, by decide +kernel, rfl, by decide +kernel, by decide +kernel⟩
theorem sc_is_note : FnScope ["value"] ["value"] (defScope s_is_note) := ⟨rfl, rfl, rfl, by decide +kernel, rfl, by decide +kernel, by decide +kernel⟩
theorem sc_how_many_cuts : FnScope ["record", "most"] ["record", "most"] (defScope s_how_many_cuts) := ⟨rfl, rfl, rfl, by decide +kernel, rfl, by decide +kernel, by decide +kernel⟩
theorem sc_how_many_orders : FnScope ["record", "most"] ["record", "most"] (defScope s_how_many_orders) := ⟨rfl, rfl, rfl, by decide +kernel, rfl, by decide +kernel, by decide +kernel⟩
theorem sc_check_notes : FnScope ["record"] ["record"] (defScope s_check_notes) := ⟨rfl, rfl, rfl, by decide +kernel, rfl, by decide +kernel, by decide +kernel⟩
theorem sc_is_between : FnScope ["counts", "note"] ["counts", "note"] (defScope s_is_between) := ⟨rfl, rfl, rfl, by decide +kernel, rfl, by decide +kernel, by decide +kernel⟩
theorem sc_has : FnScope ["done", "touch"] ["done", "touch"] (defScope s_has) := ⟨rfl, rfl, rfl, by decide +kernel, rfl, by decide +kernel, by decide +kernel⟩
theorem sc_firsts_of : FnScope ["record", "firsts", "note"] ["record"] (defScope s_firsts_of) := ⟨rfl, rfl, rfl, by decide +kernel, rfl, by decide +kernel, by decide +kernel⟩
theorem sc_is_free : FnScope ["counts", "firsts", "done", "hand"] ["counts", "firsts", "done", "hand"] (defScope s_is_free) := ⟨rfl, rfl, rfl, by decide +kernel, rfl, by decide +kernel, by decide +kernel⟩
theorem sc_free_hands : FnScope ["counts", "firsts", "done"] ["counts", "firsts", "done"] (defScope s_free_hands) := ⟨rfl, rfl, rfl, by decide +kernel, rfl, by decide +kernel, by decide +kernel⟩
theorem sc_ways_to_cuts : FnScope ["record", "most", "firsts", "ways", "latest", "further", "cut", "hand", "longer"] ["record", "most"] (defScope s_ways_to_cuts) := ⟨rfl, rfl, rfl, by decide +kernel, rfl, by decide +kernel, by decide +kernel⟩
theorem sc_Lbag : FnScope ["script", "total", "cell"] ["script"] (defScope s_Lbag) := ⟨rfl, rfl, rfl, by decide +kernel, rfl, by decide +kernel, by decide +kernel⟩
theorem sc_Lstir : FnScope ["number", "place", "one", "two"] ["number", "place"] (defScope s_Lstir) := ⟨rfl, rfl, rfl, by decide +kernel, rfl, by decide +kernel, by decide +kernel⟩
theorem sc_Ldraw : FnScope ["bag", "many", "cell", "found"] ["bag", "many"] (defScope s_Ldraw) := ⟨rfl, rfl, rfl, by decide +kernel, rfl, by decide +kernel, by decide +kernel⟩
theorem sc_Lcounts : FnScope ["bag", "great", "few", "hands", "top"] ["bag", "great"] (defScope s_Lcounts) := ⟨rfl, rfl, rfl, by decide +kernel, rfl, by decide +kernel, by decide +kernel⟩
theorem sc_Lorder : FnScope ["bag", "counts", "left", "order", "step", "some"] ["bag", "counts"] (defScope s_Lorder) := ⟨rfl, rfl, rfl, by decide +kernel, rfl, by decide +kernel, by decide +kernel⟩
theorem sc_Lspots : FnScope ["order", "found", "many", "at"] ["order"] (defScope s_Lspots) := ⟨rfl, rfl, rfl, by decide +kernel, rfl, by decide +kernel, by decide +kernel⟩
theorem sc_Lnote : FnScope ["bag", "counts", "some", "i", "j"] ["bag", "counts"] (defScope s_Lnote) := ⟨rfl, rfl, rfl, by decide +kernel, rfl, by decide +kernel, by decide +kernel⟩
theorem sc_Lrecord : FnScope ["bag", "great", "mode", "twice", "counts", "spots", "ties", "step", "note", "along"] ["bag", "great"] (defScope s_Lrecord) := ⟨rfl, rfl, rfl, by decide +kernel, rfl, by decide +kernel, by decide +kernel⟩
theorem sc_Lcopy : FnScope ["record"] ["record"] (defScope s_Lcopy) := ⟨rfl, rfl, rfl, by decide +kernel, rfl, by decide +kernel, by decide +kernel⟩
theorem sc_Lwide : FnScope ["bag", "size", "many", "counts", "turn", "ties"] ["bag"] (defScope s_Lwide) := ⟨rfl, rfl, rfl, by decide +kernel, rfl, by decide +kernel, by decide +kernel⟩
theorem sc_Llayer : FnScope ["record", "here", "counts", "ties", "there", "now", "held", "hand", "after"] ["record", "here"] (defScope s_Llayer) := ⟨rfl, rfl, rfl, by decide +kernel, rfl, by decide +kernel, by decide +kernel⟩
theorem sc_Lcounted : FnScope ["record", "here", "many", "step"] ["record"] (defScope s_Lcounted) := ⟨rfl, rfl, rfl, by decide +kernel, rfl, by decide +kernel, by decide +kernel⟩
theorem sc_Lcuts : FnScope ["record", "kind", "limit", "found"] ["record", "kind", "limit"] (defScope s_Lcuts) := ⟨rfl, rfl, rfl, by decide +kernel, rfl, by decide +kernel, by decide +kernel⟩
theorem sc_Lorders : FnScope ["record", "kind", "limit", "found"] ["record", "kind", "limit"] (defScope s_Lorders) := ⟨rfl, rfl, rfl, by decide +kernel, rfl, by decide +kernel, by decide +kernel⟩
theorem sc_Lis : FnScope ["found", "due"] ["found", "due"] (defScope s_Lis) := ⟨rfl, rfl, rfl, by decide +kernel, rfl, by decide +kernel, by decide +kernel⟩
theorem sc_law : FnScope ["script", "bag", "size", "kind", "bound", "limit", "record", "many", "orders", "handed", "due"] ["script"] (defScope s_law) := ⟨rfl, rfl, rfl, by decide +kernel, rfl, by decide +kernel, by decide +kernel⟩
section
variable {P : Program} {w : World} {K : PySem.W.Frag} {mg : Str → Option Value} {base : Heap}
/-! ### the bag and its draws -/
def BagOk (H : Hp) (r b : Addr) (n : Nat) : Prop := ∃ (ns : List Int) (i f c t : Int), H r = some (.lst [.ref b, .int i, .int f, .int c, .int t]) ∧ H b = some (.lst (ns.map V.int)) ∧ b ≠ r ∧ 0 ≤ i ∧ i ≤ ns.length ∧ 0 ≤ f ∧ 0 ≤ c ∧ c ≤ n
theorem BagOk.keep {H H' : Hp} {r b : Addr} {n : Nat} (h : BagOk H r b n) (k : Same H H') : BagOk H' r b n := by
  obtain ⟨ns, i, f, c, t, e1, e2, q⟩ := h
  exact ⟨ns, i, f, c, t, k _ _ e1, k _ _ e2, q⟩
theorem BagOk.kp {H H' : Hp} {r b p : Addr} {n : Nat} (h : BagOk H r b n) (k : Kp p H H') (n1 : r ≠ p) (n2 : b ≠ p) : BagOk H' r b n := by
  obtain ⟨ns, i, f, c, t, e1, e2, q⟩ := h
  exact ⟨ns, i, f, c, t, k _ _ e1 n1, k _ _ e2 n2, q⟩
theorem BagOk.mono {H : Hp} {r b : Addr} {n m : Nat} (h : BagOk H r b n) (k : n ≤ m) : BagOk H r b m := by
  obtain ⟨ns, i, f, c, t, e1, e2, q0, q1, q2, q3, q4, q5⟩ := h
  exact ⟨ns, i, f, c, t, e1, e2, q0, q1, q2, q3, q4, by (clear q4 q3 q2 q1 q0 e2 e1; omega)⟩
theorem BagOk.lst {H : Hp} {r b : Addr} {n : Nat} (h : BagOk H r b n) : ∃ ys, H r = some (.lst ys) := by
  obtain ⟨ns, i, f, c, t, e1, _⟩ := h
  exact ⟨_, e1⟩
theorem BagOk.ne {H : Hp} {r b p : Addr} {n : Nat} (h : BagOk H r b n) (hp : H p = none) : p ≠ r ∧ p ≠ b := by
  obtain ⟨ns, i, f, c, t, e1, e2, _⟩ := h
  exact ⟨(ne_of_none e1 hp).symm, (ne_of_none e2 hp).symm⟩
theorem Kp.new {H H' : Hp} {r p : Addr} (k : Kp r H H') (hp : H' p = none) (hr : ∃ o, H' r = some o) : H p = none := by
  cases e : H p with
  | none => rfl
  | some o =>
    by_cases n : p = r
    · subst n
      obtain ⟨o', ho⟩ := hr
      rw [hp] at ho
      cases ho
    · rw [k _ _ e n] at hp
      cases hp
theorem BagOk.at {H : Hp} {r b : Addr} {n : Nat} (h : BagOk H r b n) : ∃ o, H r = some o := by
  obtain ⟨ns, i, f, c, t, e1, _⟩ := h
  exact ⟨_, e1⟩
theorem BagOk.tups {H H' : Hp} {r b : Addr} {n : Nat} (h : BagOk H r b n) (k : Kp r H H') : ∀ a xs, H a = some (HO.tup xs) → H' a = some (HO.tup xs) := by
  obtain ⟨ys, e⟩ := h.lst
  exact k.tups e
def spStir (K : PySem.W.Frag) : Sp := fun vs H Q _ => ∃ (x p : Int), vs = [.int x, .int p] ∧ 0 ≤ p ∧ p < 2 ^ 62 ∧ ∀ z : Int, 0 ≤ z → Q (.int z) H
theorem ok_stir {f : Addr} {fd : FuncData} (F : Fun K "_law_stir" "_law_stir" s_Lstir f fd) : FnOk P w K mg base CX0 1 f fd ["number", "place"] (spStir K) := by
  refine F.ok sc_Lstir (fun vs H Q E h => ?_) (fun cdv A outer s H vs Q E hr h => ?_)
  · obtain ⟨x, p, rfl, _⟩ := h
    rfl
  · obtain ⟨x, p, rfl, p0, p1, k⟩ := h
    refine ⟨_, (pss_cons (ps_set (i := 2) sc_Lstir.nd rfl (Or.inl rfl) (pe_op op_mod (pe_op op_add (pe_op op_add (pe_op op_mul (pv 0) pe_int) (pe_op op_mul (pv 1) pe_int)) pe_int) pe_int))
      (pss_cons (ps_set (i := 3) sc_Lstir.nd rfl (Or.inl rfl) (pe_op op_mod (pe_op op_mul (pv 2) (pv 2)) pe_int))
      (pss_one (ps_ret (pe_op op_fdiv (pe_op op_mod (pe_op op_add (pe_op op_add (pe_op op_mul (pv 3) pe_int) (pe_op op_mul (pe_op op_mul (pv 1) (pv 1)) pe_int)) (pe_op op_fdiv (pv 2) pe_int)) pe_int) pe_int))))), ?_⟩
    refine ⟨_, rfl, _, _, rfl, rfl, .inr ⟨by decide, by decide⟩, _, rfl, _, _, rfl, rfl, .inr ⟨by decide, by decide⟩, _, _, rfl, rfl, _, _, rfl, rfl, _, _, rfl, rfl, (by show (0 : Int) < 2305843009213693951; decide), ?_⟩
    have o0 : (0 : Int) ≤ (x * 998244353 + p * 1000000007 + 5) % 2305843009213693951 := Int.emod_nonneg _ (by decide)
    have o1 : (x * 998244353 + p * 1000000007 + 5) % 2305843009213693951 < 2305843009213693951 := Int.emod_lt_of_pos _ (by decide)
    generalize (x * 998244353 + p * 1000000007 + 5) % 2305843009213693951 = one at o0 o1
    refine ⟨_, rfl, _, rfl, _, _, rfl, rfl, .inl ⟨by (clear o1 o0 p1 p0; omega), by (clear o1 o0 p1 p0; omega)⟩, _, _, rfl, rfl, (by show (0 : Int) < 2305843009213693951; decide), ?_⟩
    refine ⟨_, rfl, _, _, rfl, rfl, .inr ⟨by decide, by decide⟩, _, rfl, _, rfl, _, _, rfl, rfl, .inl ⟨by (clear o1 o0 p1; omega), by (clear o1 o0 p0; omega)⟩, _, _, rfl, rfl, .inr ⟨by decide, by decide⟩, _, _, rfl, rfl, _, rfl, _, _, rfl, rfl, (by show CDiv _ 3; exact ⟨by decide, by decide⟩), _, _, rfl, rfl, _, _, rfl, rfl, (by show (0 : Int) < 2305843009213693921; decide), _, _, rfl, rfl, (by show CDiv _ 1024; exact ⟨by decide, by decide⟩), ?_⟩
    exact k _ (Int.ediv_nonneg (Int.emod_nonneg _ (by decide)) (by decide))
def spDraw (K : PySem.W.Frag) : Sp := fun vs H Q _ => ∃ (r b : Addr) (m : Int) (n : Nat), vs = [.ref r, .int m] ∧ BagOk H r b n ∧ n < 1099511627776 ∧ 0 < m ∧ m < 1329227995784915872903807060280344576 ∧ ∀ (z : Int) (H' : Hp), 0 ≤ z → z < m → BagOk H' r b (n + 1) → Kp r H H' → Q (.int z) H'
theorem ok_draw {f : Addr} {fd : FuncData} (F : Fun K "_law_draw" "_law_draw" s_Ldraw f fd) (F_Lstir : FnAt P w K mg base 1 "_law_stir" ["number", "place"] (spStir K)) (Bt : Blt mg) : FnOk P w K mg base CX0 2 f fd ["bag", "many"] (spDraw K) := by
  refine F.ok sc_Ldraw (fun vs H Q E h => ?_) (fun cdv A outer s H vs Q E hr h => ?_)
  · obtain ⟨r, b, m, n, rfl, _⟩ := h
    rfl
  · obtain ⟨r, b, m, n, rfl, ⟨ns, i, f, c, t, hR, hB, nb, i0, i1, f0, c0, c1⟩, hn, m0, m1, k⟩ := h
    have hu64 := hr.units
    refine ⟨_, (pss_cons (ps_if (pt_cmpR op_eq (pv 1) pe_int (nomark _)) (pss_one (ps_ret pe_int)) pss_nil)
      (pss_cons (ps_asg (pe_op op_add (pe_ix (ix_listK (K := K) rfl) (pv 0) pe_int (fun _ _ => rfl)) pe_int) (pg_sub (pv 0) pe_int set_list))
      (pss_cons (ps_if (PW.pt (pw_and (pt_cmpR op_lt (pe_ix (ix_listK (K := K) rfl) (pv 0) pe_int (fun _ _ => rfl)) pe_int (nomark _)) (pw_and1 (pt_cmpR op_eq (pe_ix (ix_listK (K := K) rfl) (pv 0) pe_int (fun _ _ => rfl)) (pe_callB (call_len_seqK (K := K) rfl) (by rfl) Bt.b_len bt_len (pa_cons (pe_ix (ix_listK (K := K) rfl) (pv 0) pe_int (fun _ _ => rfl)) pa_nil)) (nomark _))))) (pss_one (ps_ret (pe_op op_mod (pe_fn F_Lstir (hr.mono (by decide)) (by rfl) (pa_cons (pe_ix (ix_listK (K := K) rfl) (pv 0) pe_int (fun _ _ => rfl)) (pa_cons (pe_ix (ix_listK (K := K) rfl) (pv 0) pe_int (fun _ _ => rfl)) pa_nil))) (pv 1)))) pss_nil)
      (pss_cons (ps_if (pt_cmpR op_lt (pe_ix (ix_listK (K := K) rfl) (pv 0) pe_int (fun _ _ => rfl)) pe_int (nomark _)) (pss_cons (ps_set (i := 2) sc_Ldraw.nd rfl (Or.inl rfl) (pe_ix (ix_listK (K := K) rfl) (pe_ix (ix_listK (K := K) rfl) (pv 0) pe_int (fun _ _ => rfl)) (pe_ix (ix_listK (K := K) rfl) (pv 0) pe_int (fun _ _ => rfl)) (fun _ _ => rfl)))
      (pss_cons (ps_asg (pe_op op_add (pe_ix (ix_listK (K := K) rfl) (pv 0) pe_int (fun _ _ => rfl)) pe_int) (pg_sub (pv 0) pe_int set_list))
      (pss_cons (ps_if (pt_cmpR op_lt (pv 2) (pe_op op_pow pe_int pe_int) (nomark _)) (pss_one (ps_ret (pe_op op_mod (pe_fn F_Lstir (hr.mono (by decide)) (by rfl) (pa_cons (pe_op op_mod (pv 2) pe_int) (pa_cons (pe_ix (ix_listK (K := K) rfl) (pv 0) pe_int (fun _ _ => rfl)) pa_nil))) (pv 1)))) pss_nil)
      (pss_one (ps_asg (pe_op op_sub (pv 2) (pe_op op_pow pe_int pe_int)) (pg_sub (pv 0) pe_int set_list)))))) pss_nil)
      (pss_cons (ps_set (i := 3) sc_Ldraw.nd rfl (Or.inl rfl) (pe_op op_mod (pe_ix (ix_listK (K := K) rfl) (pv 0) pe_int (fun _ _ => rfl)) (pv 1)))
      (pss_cons (ps_asg (pe_op op_fdivB (pe_ix (ix_listK (K := K) rfl) (pv 0) pe_int (fun _ _ => rfl)) (pv 1)) (pg_sub (pv 0) pe_int set_list))
      (pss_one (ps_ret (pv 3))))))))), ?_⟩
    refine ⟨_, rfl, rfl, _, rfl, ?_⟩
    refine ite2 (fun h0 => ?_) (fun h0 => ?_)
    · have e : m = 1 := by injection (of_decide_eq_true h0)
      subst e
      exact k 0 H (by decide) (by decide) ⟨ns, i, f, c, t, hR, hB, nb, i0, i1, f0, c0, by (clear h0 m1 m0 hu64 hn c0 f0 i1 i0 nb hB hR; omega)⟩ (Kp.refl _ _)
    · -- bag[3] = bag[3] + 1
      refine ⟨_, rfl, _, _, _, _, rfl, rfl, SqL.of hR, rfl, _, _, rfl, rfl, _, rfl, _, _, _, _, rfl, rfl, hR, rfl, ?_⟩
      have k1 : Kp r H (upd H r (.lst [.ref b, .int i, .int f, .int (c + 1), .int t])) := Kp.set
      have hR1 : (upd H r (.lst [.ref b, .int i, .int f, .int (c + 1), .int t])) r = some (.lst [.ref b, .int i, .int f, .int (c + 1), .int t]) := upd_same
      have hB1 := k1 _ _ hB nb
      have ln : (List.map V.int ns).length = ns.length := List.length_map ..
      have pb1 : (0 : Int) ≤ c + 1 := by (clear ln hB1 hR1 h0 hu64 m1 m0 hn c1 f0 i1 i0 nb hB hR; omega)
      have pb2 : c + 1 < 2 ^ 62 := by (clear pb1 ln hB1 hR1 h0 hu64 m1 m0 c0 f0 i1 i0 nb hB hR; omega)
      have md0 : ∀ z : Int, 0 ≤ z % m := fun z => Int.emod_nonneg _ (by (clear pb2 pb1 ln hB1 hR1 h0 hu64 m1 hn c1 c0 f0 i1 i0 nb hB hR; omega))
      have md1 : ∀ z : Int, z % m < m := fun z => Int.emod_lt_of_pos _ m0
      -- bag[2] < 2 and bag[1] == len(bag[0])
      refine ⟨_, rfl, _, _, _, _, rfl, rfl, SqL.of hR1, rfl, _, _, rfl, rfl, _, rfl, ?_⟩
      by_cases f2 : f < 2
      · rw [decide_eq_true f2]
        refine iteT ?_
        refine ⟨_, rfl, _, _, _, _, rfl, rfl, SqL.of hR1, rfl, _, rfl, _, _, _, _, rfl, rfl, SqL.of hR1, rfl, b, _, rfl, .inl (SqL.of hB1), rfl, _, rfl, ?_⟩
        refine ite2 (fun h1 => ?_) (fun h1 => ?_)
        · refine ⟨_, rfl, _, _, _, _, rfl, rfl, SqL.of hR1, rfl, _, rfl, _, _, _, _, rfl, rfl, SqL.of hR1, rfl, t, c + 1, rfl, pb1, pb2, fun z z0 => ?_⟩
          refine ⟨_, rfl, _, _, rfl, rfl, m0, ?_⟩
          exact k _ _ (md0 z) (md1 z) ⟨ns, i, f, c + 1, t, hR1, hB1, nb, i0, i1, f0, pb1, by (clear z0 h1 f2 pb2 pb1 ln hB1 hR1 h0 hu64 m1 m0 hn c0 f0 i1 i0 nb hB hR; omega)⟩ k1
        · have hlt : i < ns.length := by
            have : ¬ i = (ns.length : Int) := fun z => h1 (decide_eq_true (by rw [ln, z]))
            omega
          obtain ⟨cell, hc, _⟩ : ∃ cell : Int, atI (ns.map V.int) i = some (V.int cell) ∧ True := by
            obtain ⟨m', rfl⟩ := Int.eq_ofNat_of_zero_le i0
            have : m' < ns.length := by (clear h1 hB1 hR1 i1 i0 hR f2 pb2 pb1 ln h0 hu64 m1 m0 hn c1 c0 f0 nb hB; omega)
            exact ⟨ns[m'], atI_nat (by simp [this]), trivial⟩
          refine ⟨_, rfl, _, _, _, _, rfl, rfl, SqL.of hR1, rfl, _, _, rfl, rfl, _, rfl, ?_⟩
          rw [decide_eq_true f2]
          refine iteT ?_
          -- cell = bag[0][bag[1]]
          refine ⟨_, rfl, _, _, _, _, rfl, rfl, SqL.of hR1, rfl, _, rfl, _, _, _, _, rfl, rfl, SqL.of hR1, rfl, _, _, _, _, rfl, rfl, SqL.of hB1, hc, ?_⟩
          -- bag[1] = bag[1] + 1
          refine ⟨_, rfl, _, _, _, _, rfl, rfl, SqL.of hR1, rfl, _, _, rfl, rfl, _, rfl, _, _, _, _, rfl, rfl, hR1, rfl, ?_⟩
          have k2 : Kp r (upd H r (.lst [.ref b, .int i, .int f, .int (c + 1), .int t])) (upd (upd H r (.lst [.ref b, .int i, .int f, .int (c + 1), .int t])) r (.lst [.ref b, .int (i + 1), .int f, .int (c + 1), .int t])) := Kp.set
          have hR2 : (upd (upd H r (.lst [.ref b, .int i, .int f, .int (c + 1), .int t])) r (.lst [.ref b, .int (i + 1), .int f, .int (c + 1), .int t])) r = some (.lst [.ref b, .int (i + 1), .int f, .int (c + 1), .int t]) := upd_same
          have hB2 := k2 _ _ hB1 nb
          refine ⟨_, rfl, _, _, rfl, rfl, (by show CPow 10 18; exact ⟨by decide, by decide, by decide⟩), _, _, rfl, rfl, _, rfl, ?_⟩
          refine ite2 (fun h2 => ?_) (fun h2 => ?_)
          · refine ⟨_, rfl, _, _, rfl, rfl, (by show (0 : Int) < 2305843009213693951; decide), _, rfl, _, _, _, _, rfl, rfl, SqL.of hR2, rfl, _, c + 1, rfl, pb1, pb2, fun z z0 => ?_⟩
            refine ⟨_, rfl, _, _, rfl, rfl, m0, ?_⟩
            exact k _ _ (md0 z) (md1 z) ⟨ns, i + 1, f, c + 1, t, hR2, hB2, nb, by (clear z0 h2 hB2 hR2 hc hlt h1 f2 pb2 pb1 ln hB1 hR1 h0 hu64 m1 m0 hn c1 c0 f0 i1 nb hB hR; omega), by (clear z0 h2 hB2 hR2 hc h1 f2 pb2 pb1 ln hB1 hR1 h0 hu64 m1 m0 hn c1 c0 f0 i1 i0 nb hB hR; omega), f0, pb1, by (clear z0 h2 hB2 hR2 hc hlt h1 f2 pb2 pb1 ln hB1 hR1 h0 hu64 m1 m0 hn c0 f0 i1 i0 nb hB hR; omega)⟩ (k1.trans k2)
          · have hbig : (0 : Int) ≤ cell - 10 ^ ((18 : Int).toNat) := by
              have h2' : (1000000000000000000 : Int) ≤ cell := by simpa using h2
              show (0 : Int) ≤ cell - 1000000000000000000
              (clear h2 hB2 hR2 hc hlt h1 f2 pb2 pb1 ln hB1 hR1 h0 hu64 m1 m0 hn c1 c0 f0 i1 i0 nb hB hR; omega)
            -- bag[2] = cell - 10 ** 18
            refine ⟨_, rfl, _, _, rfl, rfl, (by show CPow 10 18; exact ⟨by decide, by decide, by decide⟩), _, _, rfl, rfl, _, rfl, _, _, _, _, rfl, rfl, hR2, rfl, ?_⟩
            have hR3 : (upd (upd (upd H r (.lst [.ref b, .int i, .int f, .int (c + 1), .int t])) r (.lst [.ref b, .int (i + 1), .int f, .int (c + 1), .int t])) r (.lst [.ref b, .int (i + 1), .int (cell - 10 ^ ((18 : Int).toNat)), .int (c + 1), .int t])) r = some (.lst [.ref b, .int (i + 1), .int (cell - 10 ^ ((18 : Int).toNat)), .int (c + 1), .int t]) := upd_same
            have k3 : Kp r (upd (upd H r (.lst [.ref b, .int i, .int f, .int (c + 1), .int t])) r (.lst [.ref b, .int (i + 1), .int f, .int (c + 1), .int t])) (upd (upd (upd H r (.lst [.ref b, .int i, .int f, .int (c + 1), .int t])) r (.lst [.ref b, .int (i + 1), .int f, .int (c + 1), .int t])) r (.lst [.ref b, .int (i + 1), .int (cell - 10 ^ ((18 : Int).toNat)), .int (c + 1), .int t])) := Kp.set
            have hB3 := k3 _ _ hB2 nb
            refine ⟨_, rfl, _, _, _, _, rfl, rfl, SqL.of hR3, rfl, _, rfl, _, _, rfl, rfl, m0, ?_⟩
            refine ⟨_, rfl, _, _, _, _, rfl, rfl, SqL.of hR3, rfl, _, rfl, _, _, rfl, rfl, ⟨m0, m1⟩, _, rfl, _, _, _, _, rfl, rfl, hR3, rfl, ?_⟩
            refine ⟨_, rfl, ?_⟩
            refine k _ _ (md0 _) (md1 _) ⟨ns, i + 1, _, c + 1, t, upd_same, ?_, nb, by (clear hB3 hR3 hbig h2 hB2 hR2 hc hlt h1 f2 pb2 pb1 ln hB1 hR1 h0 hu64 m1 m0 hn c1 c0 f0 i1 nb hB hR; omega), by (clear hB3 hR3 hbig h2 hB2 hR2 hc h1 f2 pb2 pb1 ln hB1 hR1 h0 hu64 m1 m0 hn c1 c0 f0 i1 i0 nb hB hR; omega), Int.ediv_nonneg hbig (by (clear hB3 hR3 hbig h2 hB2 hR2 hc hlt h1 f2 pb2 pb1 ln hB1 hR1 h0 hu64 m1 hn c1 c0 f0 i1 i0 nb hB hR; omega)), pb1, by (clear hB3 hR3 hbig h2 hB2 hR2 hc hlt h1 f2 pb2 pb1 ln hB1 hR1 h0 hu64 m1 m0 hn c0 f0 i1 i0 nb hB hR; omega)⟩ (((k1.trans k2).trans k3).trans Kp.set)
            rw [upd_ne nb]
            exact hB3
      · have f2' : decide (f < 2) = false := decide_eq_false f2
        rw [f2']
        refine iteF ?_
        refine ⟨_, rfl, _, _, _, _, rfl, rfl, SqL.of hR1, rfl, _, _, rfl, rfl, _, rfl, ?_⟩
        rw [f2']
        refine iteF ?_
        refine ⟨_, rfl, _, _, _, _, rfl, rfl, SqL.of hR1, rfl, _, rfl, _, _, rfl, rfl, m0, ?_⟩
        refine ⟨_, rfl, _, _, _, _, rfl, rfl, SqL.of hR1, rfl, _, rfl, _, _, rfl, rfl, ⟨m0, m1⟩, _, rfl, _, _, _, _, rfl, rfl, hR1, rfl, ?_⟩
        refine ⟨_, rfl, ?_⟩
        refine k _ _ (md0 _) (md1 _) ⟨ns, i, _, c + 1, t, upd_same, ?_, nb, by (clear f2' f2 pb2 pb1 ln hB1 hR1 h0 hu64 m1 m0 hn c1 c0 f0 i1 nb hB hR; omega), by (clear f2' f2 pb2 pb1 ln hB1 hR1 h0 hu64 m1 m0 hn c1 c0 f0 i0 nb hB hR; omega), Int.ediv_nonneg f0 (by (clear f2' f2 pb2 pb1 ln hB1 hR1 h0 hu64 m1 hn c1 c0 f0 i1 i0 nb hB hR; omega)), pb1, by (clear f2' f2 pb2 pb1 ln hB1 hR1 h0 hu64 m1 m0 hn c0 f0 i1 i0 nb hB hR; omega)⟩ (k1.trans Kp.set)
        rw [upd_ne nb]
        exact hB1
def spBag (K : PySem.W.Frag) : Sp := fun vs H Q _ => ∃ (a : Addr) (ns : List Int), vs = [.ref a] ∧ SqL K H a (ns.map V.int) ∧ ns.length ≤ 63 ∧ ∀ (r b : Addr) (H' : Hp), H r = none → H b = none → BagOk H' r b 0 → Same H H' → Q (.ref r) H'
theorem ok_bag {f : Addr} {fd : FuncData} (F : Fun K "_law_bag" "_law_bag" s_Lbag f fd) (Bt : Blt mg) : FnOk P w K mg base CX0 1 f fd ["script"] (spBag K) := by
  refine F.ok sc_Lbag (fun vs H Q E h => ?_) (fun cdv A outer s H vs Q E hr h => ?_)
  · obtain ⟨a, ns, rfl, _⟩ := h
    rfl
  · obtain ⟨a, ns, rfl, hs, hlen, k⟩ := h
    refine ⟨_, (pss_cons (ps_set (i := 1) sc_Lbag.nd rfl (Or.inl rfl) pe_int)
      (pss_cons (ps_for PassesOwn.never rfl (pi_listK (K := K) rfl (pv 0)) (pg_name (i := 2) sc_Lbag.nd rfl (Or.inl rfl))
      (pss_one (ps_set (i := 1) sc_Lbag.nd rfl (Or.inl rfl) (pe_op op_mod (pe_op op_add (pe_op op_add (pe_op op_mul (pv 1) pe_int) (pe_op op_mod (pv 2) pe_int)) pe_int) pe_int))))
      (pss_one (ps_ret (pe_lst (pa_cons (pe_callTy (call_list_ofK (K := K) rfl) (by rfl) Bt.b_list bt_list (pa_cons (pv 0) pa_nil)) (pa_cons pe_int (pa_cons pe_int (pa_cons pe_int (pa_cons (pv 1) pa_nil)))))))))), ?_⟩
    refine ⟨_, rfl, a, rfl, ⟨_, hs⟩, for_list (K := K) (a := a) (xs := ns.map V.int) (fun i σ H2 => ∃ (t : Int) (v : Option V), σ = [some (.ref a), some (.int t), v] ∧ H2 = H)
      ⟨1, none, rfl, rfl⟩ (fun i σ H2 _ ⟨_, _, _, e⟩ => by rw [e]; exact hs) ?_ ?_⟩
    · rintro i y σ H2 hi ⟨t, v, rfl, rfl⟩
      obtain ⟨z, rfl⟩ : ∃ z, y = V.int z := by
        rw [List.getElem?_map] at hi
        cases e : ns[i]? with
        | none => rw [e] at hi; cases hi
        | some z => rw [e] at hi; exact ⟨z, (Option.some.inj hi).symm⟩
      refine ⟨_, rfl, _, _, rfl, rfl, .inr ⟨by decide, by decide⟩, _, rfl, _, _, rfl, rfl, (by show (0 : Int) < 2305843009213693951; decide), _, _, rfl, rfl, _, _, rfl, rfl, _, _, rfl, rfl, (by show (0 : Int) < 2305843009213693951; decide), ?_⟩
      exact ⟨_, _, rfl, rfl⟩
    · rintro σ H2 ⟨t, v, rfl, rfl⟩
      refine ⟨_, rfl, a, _, rfl, .inl hs, fun b hb => ?_⟩
      refine ⟨_, rfl, (by show 5 ≤ sizeLine; decide), fun r hr' => ?_⟩
      have sm := same_new (o := HO.lst (ns.map V.int)) hb
      exact k r b _ (sm.free hr') hb ⟨ns, 0, 0, 0, t, upd_same, same_new hr' _ _ upd_same, ne_of_none upd_same hr', by decide, by (clear hr' hb hlen; omega), by decide, by decide, by decide⟩ (sm.trans (same_new hr'))
section
variable {D r b : Addr} {te : TE} {Q : VK} {rest : St} {H1 : Hp} {n bn : Nat}
theorem drawn_step {zs : List Int} {z : Int} {p : Nat → Int → Prop} {i : Nat} (hl : zs.length = i) (h : ∀ j z, zs[j]? = some z → p j z) (hz : p i z) : ∀ j y, (zs ++ [z])[j]? = some y → p j y := by
  intro j y e
  by_cases hj : j < zs.length
  · rw [List.getElem?_append_left hj] at e
    exact h j y e
  · rw [List.getElem?_append_right (by (clear e hl; omega))] at e
    have : j - zs.length = 0 := by
      have := (List.getElem?_eq_some_iff.mp e).1
      simp at this
      omega
    rw [this] at e
    cases e
    have : j = i := by omega
    rw [this]
    exact hz
theorem comp_drawR (p : Nat → Int → Prop) (hD : H1 D = none) (hB : BagOk H1 r b bn) (hx : n ≤ 100000)
    (hs : ∀ i H (F : VK), i < n → Kp r H1 H → BagOk H r b (bn + i) → (∀ z H', p i z → Kp r H H' → BagOk H' r b (bn + i + 1) → F (.int z) H') → te (some (.int (0 + i)) :: rest) H F)
    (hd : ∀ H (zs : List Int), zs.length = n → (∀ i z, zs[i]? = some z → p i z) → H D = some (.lst (zs.map V.int)) → Kp r H1 H → BagOk H r b (bn + n) → Q (.ref D) H) : CompW (Itr 0 n) (gName 0) tAll te Q D (none :: rest) H1 := by
  obtain ⟨nr, nb⟩ := hB.ne hD
  have mv : ∀ {H : Hp} {o : HO}, Kp r H1 H → Kp r H1 (upd H D o) := fun k c u e m => by rw [upd_ne (ne_of_none e hD)]; exact k c u e m
  refine comp_range (lo := 0) (n := n) (fun i σ H => (∃ v, σ = v :: rest) ∧ ∃ zs : List Int, zs.length = i ∧ (∀ j z, zs[j]? = some z → p j z) ∧ H D = some (.lst (zs.map V.int)) ∧ Kp r H1 H ∧ BagOk H r b (bn + i)) ⟨⟨none, rfl⟩, [], rfl, fun j z e => (by cases e), upd_same, .of_same (same_new hD), hB.keep (same_new hD)⟩ ?_ (fun σ H ⟨_, zs, hl, hp, e, k, B⟩ => hd H zs hl hp e k B)
  rintro i σ H hi ⟨⟨v, rfl⟩, zs, hl, hp, e, k1, B1⟩
  refine hs i H _ hi k1 B1 fun z H' hz k2 B2 => ?_
  refine ⟨_, k2 _ _ e nr, ?_, ⟨_, rfl⟩, zs ++ [z], by simp [hl], drawn_step hl hp hz, ?_, mv (k1.trans k2), B2.kp Kp.set nr.symm nb.symm⟩
  · rw [List.length_map, sizeLine_eq]; omega
  · rw [upd_same]; simp
end

/-! ### records -/
abbrev Nt := Int × Int × Int × Int
def nD (x : Nt) : PyData := .tuple [.int x.1, .int x.2.1, .int x.2.2.1, .int x.2.2.2]
def nV (x : Nt) : List V := [.int x.1, .int x.2.1, .int x.2.2.1, .int x.2.2.2]
theorem imm_nD (x : Nt) : imm (nD x) = true := rfl
theorem dats1 {H : Hp} {v : V} {d : PyData} (h : Dat H v d) : Dats H [v] [d] := by
  simp only [Dats, and_true]
  exact h
theorem dat_nt {H : Hp} {t : Addr} {x : Nt} (h : H t = some (.tup (nV x))) : Dat H (.ref t) (nD x) := by
  simp only [nD, Dat]
  exact ⟨t, _, rfl, h, by simp only [nV, Dats, Dat, and_self]⟩
theorem dat_nt_inv {H : Hp} {v : V} {x : Nt} (h : Dat H v (nD x)) : ∃ t, v = .ref t ∧ H t = some (.tup (nV x)) := by
  simp only [nD, Dat] at h
  obtain ⟨t, vs, e, q, d⟩ := h
  match vs, d with
  | [a, b, c, z], d =>
    simp only [Dats, Dat, and_true] at d
    obtain ⟨rfl, rfl, rfl, rfl⟩ := d
    exact ⟨t, e, q⟩
  | [], d => simp only [Dats] at d
  | [_], d => simp only [Dats, and_false] at d
  | [_, _], d => simp only [Dats, and_false] at d
  | [_, _, _], d => simp only [Dats, and_false] at d
  | _ :: _ :: _ :: _ :: _ :: _, d => simp only [Dats, and_false] at d
def NtsAt (H : Hp) (a : Addr) (ns : List Nt) : Prop := ∃ vs, H a = some (.lst vs) ∧ Dats H vs (ns.map nD)
theorem NtsAt.kp {H H' : Hp} {a r : Addr} {ns : List Nt} (h : NtsAt H a ns) (hr : ∀ a xs, H a = some (HO.tup xs) → H' a = some (HO.tup xs)) (k : Kp r H H') (n : a ≠ r) : NtsAt H' a ns := by
  obtain ⟨vs, e, d⟩ := h
  exact ⟨vs, k _ _ e n, Dats.keep hr _ (imms_map _ imm_nD ns) d⟩
theorem NtsAt.same {H H' : Hp} {a : Addr} {ns : List Nt} (h : NtsAt H a ns) (k : Same H H') : NtsAt H' a ns := by
  obtain ⟨vs, e, d⟩ := h
  exact ⟨vs, k _ _ e, Dats.keep k.tups _ (imms_map _ imm_nD ns) d⟩
theorem nts_get {H : Hp} {vs : List V} {ns : List Nt} {i : Nat} {v : V} (d : Dats H vs (ns.map nD)) (e : vs[i]? = some v) : ∃ x t, ns[i]? = some x ∧ v = .ref t ∧ H t = some (.tup (nV x)) := by
  obtain ⟨q, eq, dq⟩ := d.get e
  rw [List.getElem?_map] at eq
  cases ex : ns[i]? with
  | none => rw [ex] at eq; cases eq
  | some x =>
    rw [ex] at eq
    cases eq
    obtain ⟨t, rfl, ht⟩ := dat_nt_inv dq
    exact ⟨x, t, rfl, rfl, ht⟩
def gI (cs : List Int) (h : Int) : Int := (cs[h.toNat]?).getD 0
theorem atI_gI {cs : List Int} {h : Int} (h0 : 0 ≤ h) (h1 : h < cs.length) : atI (cs.map V.int) h = some (.int (gI cs h)) := by
  obtain ⟨m, rfl⟩ := Int.eq_ofNat_of_zero_le h0
  have : m < cs.length := by (clear h0; omega)
  refine atI_nat ?_
  simp [gI, this]
theorem gI_nat {cs : List Int} {i : Nat} {c : Int} (h : cs[i]? = some c) : gI cs i = c := by simp [gI, h]
theorem ixN_nat {n : Nat} {i : Int} (h0 : 0 ≤ i) (h1 : i < n) : ixN n i = some i.toNat := by unfold ixN; rw [if_pos h0, if_pos h1]
theorem gI_set {cs : List Int} {h k v : Int} (h0 : 0 ≤ h) (h1 : h < cs.length) (k0 : 0 ≤ k) : gI (cs.set h.toNat v) k = if k = h then v else gI cs k := by
  unfold gI
  rw [List.getElem?_set]
  by_cases e : k = h
  · subst e
    have : k.toNat < cs.length := by (clear h0; omega)
    simp [this]
  · have : ¬ h.toNat = k.toNat := by (clear h1; omega)
    simp [e, this]
def NtOk (cs : List Int) (x : Nt) : Prop := (0 ≤ x.1 ∧ x.1 < cs.length) ∧ (0 ≤ x.2.1 ∧ x.2.1 < gI cs x.1) ∧ (0 ≤ x.2.2.1 ∧ x.2.2.1 < cs.length) ∧ (0 ≤ x.2.2.2 ∧ x.2.2.2 < gI cs x.2.2.1) ∧ x.1 ≠ x.2.2.1
def CsOk (cs : List Int) : Prop := cs.length ≤ 8 ∧ ∀ c ∈ cs, 0 ≤ c ∧ c ≤ 300
theorem CsOk.gI {cs : List Int} (h : CsOk cs) (i : Int) : 0 ≤ gI cs i ∧ gI cs i ≤ 300 := by
  unfold Prf.gI
  cases e : cs[i.toNat]? with
  | none => simp
  | some c => exact h.2 c (List.mem_of_getElem? e)

/-- few hands of few touches -/
def CsSm (cs : List Int) : Prop := cs.length ≤ 4 ∧ ∀ c ∈ cs, c ≤ 6
def spCounts (K : PySem.W.Frag) : Sp := fun vs H Q _ => ∃ (r b : Addr) (n : Nat) (g : Int), vs = [.ref r, .int g] ∧ (g = 0 ∨ g = 1) ∧ BagOk H r b n ∧ n < 549755813888 ∧ ∀ (a : Addr) (cs : List Int) (H' : Hp), H a = none → H' a = some (.lst (cs.map V.int)) → CsOk cs → (g = 0 → CsSm cs) → BagOk H' r b (n + 20) → Kp r H H' → Q (.ref a) H'
theorem menu7 (n : Int) (h0 : 0 ≤ n) (h1 : n < 7) : ∃ v : Int, atI [V.int 3, V.int 2, V.int 4, V.int 2, V.int 3, V.int 1, V.int 0] n = some (V.int v) ∧ 0 ≤ v ∧ v ≤ 4 := by
  have : n = 0 ∨ n = 1 ∨ n = 2 ∨ n = 3 ∨ n = 4 ∨ n = 5 ∨ n = 6 := by omega
  rcases this with rfl | rfl | rfl | rfl | rfl | rfl | rfl
  · exact ⟨3, rfl, by decide, by decide⟩
  · exact ⟨2, rfl, by decide, by decide⟩
  · exact ⟨4, rfl, by decide, by decide⟩
  · exact ⟨2, rfl, by decide, by decide⟩
  · exact ⟨3, rfl, by decide, by decide⟩
  · exact ⟨1, rfl, by decide, by decide⟩
  · exact ⟨0, rfl, by decide, by decide⟩
theorem menu2 {u v : V} (n : Int) (h0 : 0 ≤ n) (h1 : n < 2) : (n = 0 ∧ atI [u, v] n = some u) ∨ (n = 1 ∧ atI [u, v] n = some v) := by
  have : n = 0 ∨ n = 1 := by omega
  rcases this with rfl | rfl
  · exact .inl ⟨rfl, rfl⟩
  · exact .inr ⟨rfl, rfl⟩
theorem ok_counts {f : Addr} {fd : FuncData} (F : Fun K "_law_counts" "_law_counts" s_Lcounts f fd) (F_Ldraw : FnAt P w K mg base 2 "_law_draw" ["bag", "many"] (spDraw K)) (Bt : Blt mg) : FnOk P w K mg base CX0 3 f fd ["bag", "great"] (spCounts K) := by
  refine F.ok sc_Lcounts (fun vs H Q E h => ?_) (fun cdv A outer s H vs Q E hr h => ?_)
  · obtain ⟨r, b, n, g, rfl, _⟩ := h
    rfl
  · obtain ⟨r, b, n, g, rfl, hg, B0, hn, k⟩ := h
    refine ⟨_, (pss_cons (ps_if (pt_cmpR op_eq (pv 1) pe_int (nomark _)) (pss_one (ps_ret (pe_comp rfl (N := ["hand", "bag"]) (own := ["hand"]) (caps := [0]) (CompScope.of (by kernel_rfl)) (pi_range1 (by rfl) Bt.b_range (pa_cons (pe_ix (ix_listK (K := K) rfl) (pe_lst (pa_cons pe_int (pa_cons pe_int (pa_cons pe_int (pa_cons pe_int (pa_cons pe_int (pa_cons pe_int (pa_cons pe_int pa_nil)))))))) (pe_fn F_Ldraw (hr.mono (by decide)) (by rfl) (pa_cons (pv 0) (pa_cons pe_int pa_nil))) (fun _ _ => rfl)) pa_nil)) (fun _ _ _ _ => (pg_name (i := 0) (show List.Nodup (["hand", "bag"] : List Str) by decide +kernel) rfl (Or.inl rfl))) (fun _ _ _ _ => pts_nil) (fun _ _ _ _ => (pe_fn F_Ldraw (hr.mono (by decide)) (by rfl) (pa_cons (pv 1) (pa_cons pe_int pa_nil))))))) pss_nil)
      (pss_cons (ps_set (i := 2) sc_Lcounts.nd rfl (Or.inl rfl) (pe_fn F_Ldraw (hr.mono (by decide)) (by rfl) (pa_cons (pv 0) (pa_cons pe_int pa_nil))))
      (pss_cons (ps_set (i := 3) sc_Lcounts.nd rfl (Or.inl rfl) (pe_op op_sub pe_int (pe_fn F_Ldraw (hr.mono (by decide)) (by rfl) (pa_cons (pv 0) (pa_cons pe_int pa_nil)))))
      (pss_cons (ps_set (i := 4) sc_Lcounts.nd rfl (Or.inr rfl) (pe_ix (ix_listK (K := K) rfl) (pe_lst (pa_cons (pe_op op_add (pe_op op_fdiv pe_int (pe_callB (call_max2 rfl) (by rfl) Bt.b_max bt_max (pa_cons pe_int (pa_cons (pv 3) pa_nil)))) pe_int) (pa_cons pe_int pa_nil))) (pv 2) (fun _ _ => rfl)))
      (pss_one (ps_ret (pe_comp rfl (N := ["hand", "bag", "top"]) (own := ["hand"]) (caps := [0, 4]) (CompScope.of (by kernel_rfl)) (pi_range1 (by rfl) Bt.b_range (pa_cons (pv 3) pa_nil)) (fun _ _ _ _ => (pg_name (i := 0) (show List.Nodup (["hand", "bag", "top"] : List Str) by decide +kernel) rfl (Or.inl rfl))) (fun _ _ _ _ => pts_nil) (fun _ _ _ _ => (pe_fn F_Ldraw (hr.mono (by decide)) (by rfl) (pa_cons (pv 1) (pa_cons (pv 2) pa_nil))))))))))), ?_⟩
    refine ⟨_, rfl, rfl, _, rfl, ?_⟩
    refine ite2 (fun h0 => ?_) (fun h0 => ?_)
    · refine ⟨(by show 7 ≤ sizeLine; decide), fun p hp => ?_⟩
      have sm := same_new (o := HO.lst [V.int 3, V.int 2, V.int 4, V.int 2, V.int 3, V.int 1, V.int 0]) hp
      have np := B0.ne hp
      refine ⟨_, rfl, r, b, 7, n, rfl, B0.keep sm, by omega, by decide, by decide, fun z H1 z0 z1 B1 k1 => ?_⟩
      obtain ⟨v, ev, v0, v1⟩ := menu7 z z0 z1
      refine ⟨_, _, _, _, rfl, rfl, SqL.of (k1 _ _ upd_same np.1), ev, v, rfl, by omega, by omega, fun D hD => ?_⟩
      have kk : Kp r H H1 := (Kp.of_same sm).trans k1
      refine comp_drawR (fun _ z => 0 ≤ z ∧ z < 7) hD B1 (by omega) (fun i H2 F hi k2 B2 kF => ?_) (fun H2 zs hl hp2 e k2 B2 => ?_)
      · exact ⟨_, rfl, r, b, 7, _, rfl, B2, by omega, by decide, by decide, fun z H3 z0 z1 B3 k3 => kF z H3 ⟨z0, z1⟩ k3 B3⟩
      · have sm7 : ∀ c ∈ zs, 0 ≤ c ∧ c < 7 := fun c hc => by
          obtain ⟨i, hi⟩ := List.getElem?_of_mem hc
          exact hp2 i c hi
        exact k D zs H2 (Kp.new kk hD B1.at) e ⟨by omega, fun c hc => by have := sm7 c hc; omega⟩ (fun _ => ⟨by omega, fun c hc => by have := sm7 c hc; omega⟩) (B2.mono (by omega)) (kk.trans k2)
    · -- few, hands
      refine ⟨_, rfl, r, b, 2, n, rfl, B0, by omega, by decide, by decide, fun few H1 f0 f1 B1 k1 => ?_⟩
      refine ⟨_, rfl, r, b, 9, n + 1, rfl, B1, by omega, by decide, by decide, fun z H2 z0 z1 B2 k2 => ⟨_, _, rfl, rfl, ?_⟩⟩
      -- top
      refine ⟨_, rfl, _, _, rfl, ?_⟩
      have mx : (1 : Int) ≤ (if 8 - z > 1 then 8 - z else 1) ∧ (if 8 - z > 1 then 8 - z else 1) ≤ 8 := by split <;> omega
      have mx' : (if ((fun i j => V.int (i - j)) 8 z : V) = (fun i j => V.int (i - j)) 8 z then (1 : Int) else 0) = 1 := by simp
      refine ⟨_, _, rfl, rfl, (by show CDiv 300 (if 8 - z > 1 then 8 - z else 1); exact ⟨by omega, by omega⟩), _, _, rfl, rfl, (by show 2 ≤ sizeLine; decide), fun p hp => ?_⟩
      have q0 : (1 : Int) ≤ 300 / (if 8 - z > 1 then 8 - z else 1) + 1 := by
        have : 0 ≤ (300 : Int) / (if 8 - z > 1 then 8 - z else 1) := Int.ediv_nonneg (by decide) (by omega)
        omega
      have q1 : (300 : Int) / (if 8 - z > 1 then 8 - z else 1) + 1 ≤ 301 := by
        have : (300 : Int) / (if 8 - z > 1 then 8 - z else 1) ≤ 300 := Int.ediv_le_self _ (by decide)
        omega
      obtain ⟨top, et, t0, t1⟩ : ∃ top : Int, atI [V.int (300 / (if 8 - z > 1 then 8 - z else 1) + 1), V.int 4] few = some (V.int top) ∧ 0 < top ∧ top ≤ 301 := by
        rcases menu2 (u := V.int (300 / (if 8 - z > 1 then 8 - z else 1) + 1)) (v := V.int 4) few f0 f1 with ⟨_, e⟩ | ⟨_, e⟩
        · exact ⟨_, e, by omega, by omega⟩
        · exact ⟨_, e, by decide, by decide⟩
      refine ⟨_, rfl, _, _, _, _, rfl, rfl, SqL.of upd_same, et, ?_⟩
      have sm := same_new (o := HO.lst [V.int (300 / (if 8 - z > 1 then 8 - z else 1) + 1), V.int 4]) hp
      have kk : Kp r H (upd H2 p (HO.lst [V.int (300 / (if 8 - z > 1 then 8 - z else 1) + 1), V.int 4])) := (k1.trans k2).trans (.of_same sm)
      have B3 := B2.keep sm
      refine ⟨_, rfl, 8 - z, rfl, by omega, by omega, fun D hD => ?_⟩
      refine comp_drawR (fun _ z => 0 ≤ z ∧ z < top) hD B3 (by omega) (fun i H2 F hi k2 B2 kF => ?_) (fun H2 zs hl hp2 e k2 B2 => ?_)
      · exact ⟨_, rfl, _, rfl, r, b, top, _, rfl, B2, by omega, t0, by omega, fun z H3 z0 z1 B3 k3 => kF z H3 ⟨z0, z1⟩ k3 B3⟩
      · refine k D zs H2 (Kp.new kk hD B3.at) e ⟨by omega, fun c hc => ?_⟩ (fun z => absurd (decide_eq_true (by rw [z])) h0) (B2.mono (by omega)) (kk.trans k2)
        obtain ⟨i, hi⟩ := List.getElem?_of_mem hc
        have := hp2 i c hi
        omega

/-- the hands that have some left -/
def pos (ls : List Int) : List Int := (List.range ls.length).filterMap fun (i : Nat) => if gI ls (i : Int) > 0 then some (i : Int) else none
theorem mem_pos {ls : List Int} {h : Int} (m : h ∈ pos ls) : 0 ≤ h ∧ h < ls.length ∧ 0 < gI ls h := by
  unfold pos at m
  rw [List.mem_filterMap] at m
  obtain ⟨i, hi, e⟩ := m
  have hi' : i < ls.length := by simpa using hi
  by_cases q : gI ls i > 0
  · rw [if_pos q] at e
    cases e
    exact ⟨by omega, by omega, q⟩
  · rw [if_neg q] at e
    cases e
theorem pos_mem {ls : List Int} {h : Int} (h0 : 0 ≤ h) (h1 : h < ls.length) (q : 0 < gI ls h) : h ∈ pos ls := by
  unfold pos
  rw [List.mem_filterMap]
  refine ⟨h.toNat, by simp; omega, ?_⟩
  have e : ((h.toNat : Nat) : Int) = h := by omega
  rw [e, if_pos q]
theorem pos_len (ls : List Int) : (pos ls).length ≤ ls.length := fm_len _ _
theorem pos_nodup (ls : List Int) : (pos ls).Nodup := by
  unfold pos
  refine List.Pairwise.filterMap (R := fun a b => a ≠ b) _ ?_ List.nodup_range
  intro a b n c ec d ed
  by_cases q : gI ls a > 0
  · by_cases q2 : gI ls b > 0
    · rw [if_pos q] at ec
      rw [if_pos q2] at ed
      cases ec
      cases ed
      intro z
      exact n (by omega)
    · rw [if_neg q2] at ed
      cases ed
  · rw [if_neg q] at ec
    cases ec
theorem pos_map (ls : List Int) : (List.range ls.length).filterMap (fun (i : Nat) => if gI ls (i : Int) > 0 then some (V.int (0 + (i : Int))) else none) = (pos ls).map V.int := by
  unfold pos
  rw [List.map_filterMap]
  refine fm_congr _ trivial fun i _ => ?_
  by_cases q : gI ls (i : Int) > 0
  · rw [if_pos q, if_pos q]; simp
  · rw [if_neg q, if_neg q]; rfl
theorem sum_pos : ∀ {ls : List Int}, 0 < ls.sum → ∃ i : Nat, i < ls.length ∧ 0 < gI ls i
  | [], h => by simp at h
  | x :: ls, h => by
    by_cases q : 0 < x
    · exact ⟨0, by simp, by simpa [gI] using q⟩
    · rw [List.sum_cons] at h
      obtain ⟨i, hi, e⟩ := sum_pos (ls := ls) (by omega)
      exact ⟨i + 1, by simp [hi], by simpa [gI] using e⟩
theorem sum_set : ∀ {ls : List Int} {i : Nat} {x : Int}, ls[i]? = some x → ∀ y, (ls.set i y).sum = ls.sum - x + y
  | [], i, x, h, y => by cases h
  | z :: ls, 0, x, h, y => by
    cases h
    simp only [List.set_cons_zero, List.sum_cons]
    omega
  | z :: ls, i + 1, x, h, y => by
    simp only [List.set_cons_succ, List.sum_cons]
    rw [sum_set (ls := ls) (i := i) (x := x) (by simpa using h) y]
    omega
theorem sum_le : ∀ {ls : List Int}, (∀ c ∈ ls, 0 ≤ c ∧ c ≤ 300) → 0 ≤ ls.sum ∧ ls.sum ≤ 300 * ls.length
  | [], _ => by simp
  | x :: ls, h => by
    have a := h x (by simp)
    have b := sum_le (ls := ls) fun c hc => h c (by simp [hc])
    rw [List.sum_cons, List.length_cons]
    omega

def OrdOk (cs os : List Int) : Prop := os.length ≤ 2400 ∧ ∀ h : Int, 0 ≤ h → h < cs.length → (os.count h : Int) = gI cs h
def spOrder (K : PySem.W.Frag) : Sp := fun vs H Q _ => ∃ (r b : Addr) (n : Nat) (a : Addr) (cs : List Int), vs = [.ref r, .ref a] ∧ BagOk H r b n ∧ n < 274877906944 ∧ H a = some (.lst (cs.map V.int)) ∧ a ≠ r ∧ CsOk cs ∧ ∀ (o : Addr) (os : List Int) (H' : Hp), H o = none → H' o = some (.lst (os.map V.int)) → OrdOk cs os → (∀ h ∈ os, 0 ≤ h ∧ h < cs.length) → BagOk H' r b (n + 2400) → Kp r H H' → Q (.ref o) H'
theorem ok_order {f : Addr} {fd : FuncData} (F : Fun K "_law_order" "_law_order" s_Lorder f fd) (F_Ldraw : FnAt P w K mg base 2 "_law_draw" ["bag", "many"] (spDraw K)) (Bt : Blt mg) : FnOk P w K mg base CX0 3 f fd ["bag", "counts"] (spOrder K) := by
  refine F.ok sc_Lorder (fun vs H Q E h => ?_) (fun cdv A outer s H vs Q E hr h => ?_)
  · obtain ⟨r, b, n, a, cs, rfl, _⟩ := h
    rfl
  · obtain ⟨r, b, n, a, cs, rfl, B0, hn, ha, nar, ok, k⟩ := h
    refine ⟨_, (pss_cons (ps_set (i := 2) sc_Lorder.nd rfl (Or.inr rfl) (pe_callTy (call_list_ofK (K := K) rfl) (by rfl) Bt.b_list bt_list (pa_cons (pv 1) pa_nil)))
      (pss_cons (ps_set (i := 3) sc_Lorder.nd rfl (Or.inl rfl) (pe_lst pa_nil))
      (pss_cons (ps_for PassesOwn.never rfl (pi_range1 (by rfl) Bt.b_range (pa_cons (pe_callB (call_sumK (K := K) rfl rfl) (by rfl) Bt.b_sum bt_sum (pa_cons (pv 1) pa_nil)) pa_nil)) (pg_name (i := 4) sc_Lorder.nd rfl (Or.inl rfl))
      (pss_cons (ps_setC (i := 5) rfl sc_Lorder.nd rfl (Or.inl rfl) (N := ["hand", "left"]) (own := ["hand"]) (caps := [2]) (CompScope.of (by kernel_rfl)) (pi_range1 (by rfl) Bt.b_range (pa_cons (pe_callB (call_len_seqK (K := K) rfl) (by rfl) Bt.b_len bt_len (pa_cons (pv 2) pa_nil)) pa_nil)) (fun _ _ _ _ => (pg_name (i := 0) (show List.Nodup (["hand", "left"] : List Str) by decide +kernel) rfl (Or.inl rfl))) (fun _ _ _ _ => (pts_one (pt_cmpR op_gt (pe_ix (ix_listK (K := K) rfl) (pv 1) (pv 0) (fun _ _ => rfl)) pe_int (nomark _)))) (fun _ _ _ _ => (pv 0)))
      (pss_cons (ps_expr (pe_appendK (K := K) rfl (pv 3) (pa_cons (pe_ix (ix_listK (K := K) rfl) (pv 5) (pe_fn F_Ldraw (hr.mono (by decide)) (by rfl) (pa_cons (pv 0) (pa_cons (pe_callB (call_len_seqK (K := K) rfl) (by rfl) Bt.b_len bt_len (pa_cons (pv 5) pa_nil)) pa_nil))) (fun _ _ => rfl)) pa_nil)))
      (pss_one (ps_asg (pe_op op_sub (pe_ix (ix_listK (K := K) rfl) (pv 2) (pe_ix (ix_listK (K := K) rfl) (pv 3) (pe_un un_neg pe_int) (fun _ _ => rfl)) (fun _ _ => rfl)) pe_int) (pg_sub (pv 2) (pe_ix (ix_listK (K := K) rfl) (pv 3) (pe_un un_neg pe_int) (fun _ _ => rfl)) set_list))))))
      (pss_one (ps_ret (pv 3)))))), ?_⟩
    -- left = list(counts)
    refine ⟨_, rfl, a, _, rfl, .inl (SqL.of ha), fun l hl => ?_⟩
    have sm1 := same_new (o := HO.lst (cs.map V.int)) hl
    refine ⟨(by show 0 ≤ sizeLine; decide), fun p hp => ?_⟩
    have sm2 := same_new (o := HO.lst []) hp
    have nlp : l ≠ p := ne_of_none upd_same hp
    have hp0 : H p = none := sm1.free hp
    have nl := B0.ne hl
    have np := B0.ne hp0
    have hsum := sum_le ok.2
    have clen := ok.1
    refine ⟨_, rfl, a, cs, rfl, SqL.of (sm2 _ _ (sm1 _ _ ha)), cs.sum, rfl, by omega, by omega, ?_⟩
    refine for_range (lo := 0) (n := cs.sum.toNat) (fun i σ H2 => ∃ (ls os : List Int) (x y : Option V), σ = [some (.ref r), some (.ref a), some (.ref l), some (.ref p), x, y] ∧ H2 l = some (.lst (ls.map V.int)) ∧ H2 p = some (.lst (os.map V.int)) ∧
        ls.length = cs.length ∧ (∀ h : Int, 0 ≤ h → 0 ≤ gI ls h ∧ gI ls h + (os.count h : Int) = (if h < cs.length then gI cs h else 0)) ∧ ls.sum + i = cs.sum ∧ os.length = i ∧ (∀ h ∈ os, 0 ≤ h ∧ h < (cs.length : Int)) ∧ BagOk H2 r b (n + i) ∧ Kp r H H2)
      ⟨cs, [], none, none, rfl, sm2 _ _ upd_same, upd_same, rfl, fun h h0 => ⟨(ok.gI h).1, ?_⟩, by simp, rfl, (fun h hh => by cases hh), (B0.keep sm1).keep sm2, .of_same (sm1.trans sm2)⟩ ?_ ?_
    · by_cases q : h < cs.length
      · rw [if_pos q]; simp
      · rw [if_neg q]
        have : cs[h.toNat]? = none := by simp; omega
        simp [gI, this]
    · rintro i σ H2 hi ⟨ls, os, x, y, rfl, hL, hP, ll, hgi, hs, ol, oir, B2, k2⟩
      have spos : 0 < ls.sum := by omega
      -- some = [hand for hand in range(len(left)) if left[hand] > 0]
      refine ⟨_, rfl, l, _, rfl, .inl (SqL.of hL), _, rfl, by rw [List.length_map]; omega, by rw [List.length_map]; omega, fun D hD => ?_⟩
      have lnm : (((ls.map V.int).length : Nat) : Int).toNat = ls.length := by simp
      rw [lnm]
      refine comp_valR (fun (i : Nat) => if gI ls (i : Int) > 0 then some (V.int (0 + (i : Int))) else none) hD (by omega) (fun j H3 G F hj s3 kG kF => ?_) (fun H3 s3 e3 => ?_)
      · refine ⟨_, rfl, _, rfl, _, _, _, _, rfl, rfl, SqL.of (s3 _ _ hL), (atI_gI (h := 0 + (j : Int)) (by omega) (by omega)), _, _, rfl, rfl, _, rfl, ?_⟩
        have ej : (0 + (j : Int)) = (j : Int) := by omega
        rw [ej]
        refine ite2 (fun q => ?_) (fun q => ?_)
        · have q := of_decide_eq_true q
          refine ⟨_, rfl, kF _ H3 (Same.refl _) ?_⟩
          rw [if_pos q, ej]
        · have q : ¬ gI ls (j : Int) > 0 := fun z => q (decide_eq_true z)
          exact kG H3 (Same.refl _) (if_neg q)
      · rw [pos_map] at e3
        have B3 := B2.keep s3
        have hL3 := s3 _ _ hL
        have hP3 := s3 _ _ hP
        have nD : D ≠ r := (B2.ne hD).1
        obtain ⟨i0, hi0, gp⟩ := sum_pos spos
        have plen : 0 < (pos ls).length := List.length_pos_of_mem (pos_mem (h := (i0 : Int)) (by omega) (by omega) gp)
        have plen8 := pos_len ls
        -- order.append(some[draw])
        refine ⟨_, rfl, .inl ⟨rfl, _, SqL.of hP3⟩, _, rfl, _, rfl, _, rfl, D, _, rfl, .inl (SqL.of e3), r, b, _, _, rfl, B3, by omega, by rw [List.length_map]; omega, by rw [List.length_map]; omega, fun z H4 z0 z1 B4 k4 => ?_⟩
        rw [List.length_map] at z1
        obtain ⟨h, eh⟩ : ∃ h, (pos ls)[z.toNat]? = some h := ⟨(pos ls)[z.toNat]'(by omega), by simp⟩
        have hm := mem_pos (List.mem_of_getElem? eh)
        have ez : atI ((pos ls).map V.int) z = some (.int h) := by
          obtain ⟨m, rfl⟩ := Int.eq_ofNat_of_zero_le z0
          refine atI_nat ?_
          have eh' : (pos ls)[m]? = some h := eh
          rw [List.getElem?_map, eh']; rfl
        have hP4 := k4 _ _ hP3 np.1
        have hL4 := k4 _ _ hL3 nl.1
        refine ⟨_, _, _, _, rfl, rfl, SqL.of (k4 _ _ e3 nD), ez, p, _, _, rfl, rfl, hP4, (by rw [List.length_map, sizeLine_eq]; omega), ?_⟩
        have kp5 : Kp p H4 (upd H4 p (.lst (os.map V.int ++ [V.int h]))) := Kp.set
        have hL5 := kp5 _ _ hL4 nlp
        have hP5 : (upd H4 p (.lst (os.map V.int ++ [V.int h]))) p = some (.lst (os.map V.int ++ [V.int h])) := upd_same
        -- left[order[-1]] = left[order[-1]] - 1
        refine ⟨_, rfl, _, rfl, _, rfl, _, _, _, _, rfl, rfl, SqL.of hP5, atI_last _ _, _, _, _, _, rfl, rfl, SqL.of hL5, atI_gI hm.1 hm.2.1, _, _, rfl, rfl, _, rfl, _, rfl, _, rfl, _, _, _, _, rfl, rfl, SqL.of hP5, atI_last _ _, _, _, _, _, rfl, rfl, hL5, ixN_nat hm.1 (by rw [List.length_map]; exact hm.2.1), ?_⟩
        have kl6 : Kp l (upd H4 p (.lst (os.map V.int ++ [V.int h]))) (upd (upd H4 p (.lst (os.map V.int ++ [V.int h]))) l (.lst ((ls.map V.int).set h.toNat (V.int (gI ls h - 1))))) := Kp.set
        refine ⟨ls.set h.toNat (gI ls h - 1), os ++ [h], _, _, rfl, ?_, ?_, by simp [ll], fun h' h0' => ?_, ?_, by simp [ol], (fun z hz => by
          rcases List.mem_append.mp hz with hz | hz
          · exact oir z hz
          · have : z = h := by simpa using hz
            subst this
            exact ⟨hm.1, by rw [← ll]; exact hm.2.1⟩), ?_, ?_⟩
        · show (upd (upd H4 p (.lst (os.map V.int ++ [V.int h]))) l (.lst ((ls.map V.int).set h.toNat (V.int (gI ls h - 1))))) l = _
          rw [upd_same, List.map_set]
        · refine (kl6 _ _ hP5 nlp.symm).trans ?_
          simp
        · have q := hgi h' h0'
          have hc : ((os ++ [h]).count h' : Int) = os.count h' + (if h' = h then 1 else 0) := by
            rw [List.count_append]
            by_cases e : h' = h
            · subst e; simp
            · have : ¬ h = h' := fun z => e z.symm
              simp [e, this]
          rw [gI_set hm.1 (by omega) h0', hc]
          by_cases e : h' = h
          · subst e
            rw [if_pos rfl, if_pos rfl]
            have := hm.2.2
            omega
          · rw [if_neg e, if_neg e]
            omega
        · have e : ls[h.toNat]? = some (gI ls h) := by
            have : h.toNat < ls.length := by omega
            simp [gI, this]
          rw [sum_set e]
          omega
        · exact ((B4.kp kp5 np.1.symm np.2.symm).kp kl6 nl.1.symm nl.2.symm).mono (by omega)
        · intro c u ec nc
          have n1 : c ≠ p := ne_of_none ec hp0
          have n2 : c ≠ l := ne_of_none ec hl
          exact kl6 _ _ (kp5 _ _ (k4 _ _ (s3 _ _ (k2 _ _ ec nc)) nc) n1) n2
    · rintro σ H2 ⟨ls, os, x, y, rfl, hL, hP, ll, hgi, hs, ol, oir, B2, k2⟩
      refine ⟨_, rfl, k p os H2 hp0 hP ⟨by omega, fun h h0 h1 => ?_⟩ oir (B2.mono (by omega)) k2⟩
      have q := hgi h h0
      rw [if_pos h1] at q
      have z : gI ls h = 0 := by
        have nn : ∀ h : Int, 0 ≤ h → 0 ≤ gI ls h := fun h h0 => (hgi h h0).1
        have s0 : ls.sum = 0 := by omega
        by_cases e : 0 < gI ls h
        · exfalso
          have : ∀ (ms : List Int), (∀ c ∈ ms, 0 ≤ c) → ∀ c ∈ ms, c ≤ ms.sum := by
            intro ms
            induction ms with
            | nil => intro _ c hc; cases hc
            | cons m ms ih =>
              intro hm c hc
              have m0 := hm m (by simp)
              have ms0 : 0 ≤ ms.sum := by
                clear ih hc
                induction ms with
                | nil => simp
                | cons y ys ih2 =>
                  have := hm y (by simp)
                  have := ih2 (fun c hc => hm c (by simp at hc ⊢; rcases hc with z | z; exact .inl z; exact .inr (.inr z)))
                  rw [List.sum_cons]; omega
              rw [List.sum_cons]
              rcases List.mem_cons.mp hc with rfl | hc
              · omega
              · have := ih (fun c hc => hm c (by simp [hc])) c hc
                omega
          have hle : h.toNat < ls.length := by omega
          have mem : gI ls h ∈ ls := by
            have e : ls[h.toNat]? = some (gI ls h) := by simp [gI, hle]
            exact List.mem_of_getElem? e
          have := this ls (fun c hc => by
            obtain ⟨i, hi⟩ := List.getElem?_of_mem hc
            have := nn (i : Int) (by omega)
            rw [gI_nat hi] at this
            exact this) _ mem
          omega
        · have := nn h h0
          omega
      omega

/-! ### spots, notes, records -/
def SpotOk (kvs : List (List Key × V)) (os : List Int) : Prop := ∀ (h : Int) (k : Nat), k < os.count h → ∃ p : Nat, valV kvs [Sum.inl h, Sum.inl (k : Int)] = some (.int p) ∧ os[p]? = some h ∧ (os.take p).count h = k
def spSpots (K : PySem.W.Frag) : Sp := fun vs H Q _ => ∃ (a : Addr) (os : List Int), vs = [.ref a] ∧ H a = some (.lst (os.map V.int)) ∧ os.length ≤ 2400 ∧ ∀ (d : Addr) (kvs : List (List Key × V)) (H' : Hp), H d = none → H' d = some (.dT kvs) → SpotOk kvs os → Same H H' → Q (.ref d) H'
theorem ok_spots {f : Addr} {fd : FuncData} (F : Fun K "_law_spots" "_law_spots" s_Lspots f fd) (Bt : Blt mg) : FnOk P w K mg base CX0 1 f fd ["order"] (spSpots K) := by
  refine F.ok sc_Lspots (fun vs H Q E h => ?_) (fun cdv A outer s H vs Q E hr h => ?_)
  · obtain ⟨a, os, rfl, _⟩ := h
    rfl
  · obtain ⟨a, os, rfl, ha, hlen, k⟩ := h
    have hu := hu_of hr
    refine ⟨_, (pss_cons (ps_set (i := 1) sc_Lspots.nd rfl (Or.inl rfl) pe_dnewT)
      (pss_cons (ps_set (i := 2) sc_Lspots.nd rfl (Or.inl rfl) pe_dnewK)
      (pss_cons (ps_for PassesOwn.never rfl (pi_range1 (by rfl) Bt.b_range (pa_cons (pe_callB (call_len_seqK (K := K) rfl) (by rfl) Bt.b_len bt_len (pa_cons (pv 0) pa_nil)) pa_nil)) (pg_name (i := 3) sc_Lspots.nd rfl (Or.inl rfl))
      (pss_cons (ps_dput hu (pv 2) (pe_ix (ix_listK (K := K) rfl) (pv 0) (pv 3) (fun _ _ => rfl)) (pe_op op_add (pe_dget2 hu (pv 2) (pe_ix (ix_listK (K := K) rfl) (pv 0) (pv 3) (fun _ _ => rfl)) pe_int ⟨rfl, rfl, rfl, rfl⟩) pe_int) rfl)
      (pss_one (ps_dput hu (pv 1) (pe_tup (pa_cons (pe_ix (ix_listK (K := K) rfl) (pv 0) (pv 3) (fun _ _ => rfl)) (pa_cons (pe_op op_sub (pe_dget hu (pv 2) (pe_ix (ix_listK (K := K) rfl) (pv 0) (pv 3) (fun _ _ => rfl)) (fun _ _ => rfl)) pe_int) pa_nil))) (pv 3) rfl))))
      (pss_one (ps_ret (pv 1)))))), ?_⟩
    intro d hd
    have sm1 := same_new (o := HO.dT []) hd
    intro m hm
    have sm2 := same_new (o := HO.dK []) hm
    have ndm : d ≠ m := ne_of_none upd_same hm
    have hm0 : H m = none := sm1.free hm
    have ha2 := sm2 _ _ (sm1 _ _ ha)
    refine ⟨_, rfl, a, _, rfl, .inl (SqL.of ha2), _, rfl, by rw [List.length_map]; omega, by rw [List.length_map]; omega, ?_⟩
    have lnm : (((os.map V.int).length : Nat) : Int).toNat = os.length := by simp
    rw [lnm]
    refine for_range (lo := 0) (n := os.length) (fun i σ H2 => ∃ (fk : List (List Key × V)) (mk : List (Key × V)) (x : Option V), σ = [some (.ref a), some (.ref d), some (.ref m), x] ∧ Same H H2 ∧ H2 d = some (.dT fk) ∧ H2 m = some (.dK mk) ∧
        fk.length ≤ i ∧ mk.length ≤ i ∧ (∀ h : Int, (valV mk (Sum.inl h)).getD (.int 0) = .int ((os.take i).count h)) ∧ SpotOk fk (os.take i))
      ⟨[], [], none, rfl, sm1.trans sm2, sm2 _ _ upd_same, upd_same, Nat.zero_le _, Nat.zero_le _, fun h => by simp [valV], fun h k hk => by simp at hk⟩ ?_ ?_
    · rintro i σ H2 hi ⟨fk, mk, x, rfl, sm, hD, hM, fl, ml, hv, hS⟩
      have haH := sm _ _ ha
      obtain ⟨y, ey⟩ : ∃ y, os[i]? = some y := ⟨os[i], by simp [hi]⟩
      have tk : os.take (i + 1) = os.take i ++ [y] := by rw [List.take_add_one, ey]; rfl
      have ei : (0 + (i : Int)) = (i : Int) := by omega
      have at_ : ∀ (xs : List V), xs = os.map V.int → atI xs (0 + (i : Int)) = some (.int y) := by
        rintro xs rfl
        rw [ei]
        refine atI_nat ?_
        rw [List.getElem?_map, ey]; rfl
      -- many[order[at]] = many.get(order[at], 0) + 1
      refine ⟨_, rfl, m, rfl, .inl ⟨_, .inl hM⟩, _, rfl, _, rfl, _, _, _, _, rfl, rfl, SqL.of haH, at_ _ rfl, _, DGet.k (k := Sum.inl y) hM, ?_⟩
      rw [hv y]
      refine ⟨_, _, rfl, rfl, _, rfl, _, rfl, _, rfl, _, _, _, _, rfl, rfl, SqL.of haH, at_ _ rfl, m, _, rfl, DPut.k (k := Sum.inl y) hM (by rw [sizeLine_eq]; omega), ?_⟩
      have k1 : Kp m H2 (upd H2 m (.dK (putK mk (Sum.inl y) (V.int (((os.take i).count y : Nat) + 1))))) := Kp.set
      have ha1 := k1 _ _ haH (ne_of haH hM (by intro z; cases z))
      have hD1 := k1 _ _ hD ndm
      have hM1 : (upd H2 m (.dK (putK mk (Sum.inl y) (V.int (((os.take i).count y : Nat) + 1))))) m = some (.dK (putK mk (Sum.inl y) (V.int (((os.take i).count y : Nat) + 1)))) := upd_same
      -- found[order[at], many[order[at]] - 1] = at
      have gv : valV (putK mk (Sum.inl y) (V.int (((os.take i).count y : Nat) + 1))) (Sum.inl y) = some (V.int (((os.take i).count y : Nat) + 1)) := by rw [valV_put, if_pos rfl]
      refine ⟨_, rfl, _, rfl, _, rfl, _, rfl, _, _, _, _, rfl, rfl, SqL.of ha1, at_ _ rfl, _, rfl, _, rfl, _, rfl, _, _, _, _, rfl, rfl, SqL.of ha1, at_ _ rfl, m, _, rfl, gv ▸ DGet.k (k := Sum.inl y) hM1, _, _, rfl, rfl, (by show 2 ≤ sizeLine; decide), fun t ht => ?_⟩
      have st := same_new (o := HO.tup [V.int y, V.int ((((os.take i).count y : Nat) : Int) + 1 - 1)]) ht
      refine ⟨d, _, rfl, DPut.t (k := [Sum.inl y, Sum.inl ((((os.take i).count y : Nat) : Int) + 1 - 1)]) (st _ _ hD1) upd_same (by rw [sizeLine_eq]; omega), ?_⟩
      have ec : (((os.take i).count y : Nat) : Int) + 1 - 1 = ((os.take i).count y : Nat) := by omega
      refine ⟨_, putK mk (Sum.inl y) (V.int (((os.take i).count y : Nat) + 1)), _, rfl, ?_, upd_same, ?_, ?_, ?_, fun h => ?_, fun h j hj => ?_⟩
      · intro c u e
        have n1 : c ≠ d := ne_of_none e hd
        have n2 : c ≠ m := ne_of_none e hm0
        rw [upd_ne n1]
        exact st _ _ (k1 _ _ (sm _ _ e) n2)
      · rw [upd_ne ndm.symm]
        exact st _ _ hM1
      · exact Nat.le_trans (length_putK ..) (by omega)
      · exact Nat.le_trans (length_putK ..) (by omega)
      · rw [valV_put, tk, List.count_append]
        by_cases e : h = y
        · subst e
          rw [if_pos rfl]; simp
        · rw [if_neg (fun z => e (Sum.inl.inj z)), hv h]
          have : ¬ y = h := fun z => e z.symm
          simp [this]
      · rw [valV_put]
        by_cases e : ([Sum.inl h, Sum.inl (j : Int)] : List Key) = [Sum.inl y, Sum.inl ((((os.take i).count y : Nat) : Int) + 1 - 1)]
        · rw [if_pos e]
          injection e with z1 z2
          injection z2 with z2 _
          have eh : h = y := Sum.inl.inj z1
          have ej : (j : Int) = (((os.take i).count y : Nat) : Int) + 1 - 1 := Sum.inl.inj z2
          subst eh
          have tl : (os.take i).length = i := by rw [List.length_take]; omega
          refine ⟨i, by rw [ei], ?_, ?_⟩
          · rw [tk, List.getElem?_append_right (by omega), tl]; simp
          · rw [tk, List.take_append_of_le_length (by omega), List.take_take, Nat.min_self]; omega
        · rw [if_neg e]
          have hj' : j < (os.take i).count h := by
            rw [tk, List.count_append] at hj
            by_cases ehy : h = y
            · subst ehy
              simp at hj
              have : j ≠ (os.take i).count h := fun z => e (by rw [z, ec])
              omega
            · have : ¬ y = h := fun z => ehy z.symm
              simpa [this] using hj
          obtain ⟨p, e1, e2, e3⟩ := hS h j hj'
          have pl : p < (os.take i).length := (List.getElem?_eq_some_iff.mp e2).1
          exact ⟨p, e1, by rw [tk, List.getElem?_append_left pl]; exact e2, by rw [tk, List.take_append_of_le_length (by omega)]; exact e3⟩
    · rintro σ H2 ⟨fk, mk, x, rfl, sm, hD, hM, fl, ml, hv, hS⟩
      rw [List.take_length] at hS
      exact ⟨_, rfl, k d fk H2 hd hD hS sm⟩
def spNote (K : PySem.W.Frag) : Sp := fun vs H Q _ => ∃ (r b : Addr) (n : Nat) (a : Addr) (cs : List Int), vs = [.ref r, .ref a] ∧ BagOk H r b n ∧ n < 549755813888 ∧ H a = some (.lst (cs.map V.int)) ∧ a ≠ r ∧ CsOk cs ∧
  (∀ H', (pos cs).length < 2 → BagOk H' r b (n + 4) → Kp r H H' → Q .non H') ∧ ∀ (t : Addr) (x : Nt) (H' : Hp), H t = none → H' t = some (.tup (nV x)) → NtOk cs x → BagOk H' r b (n + 4) → Kp r H H' → Q (.ref t) H'
theorem pos_at {ls : List Int} {z : Int} (z0 : 0 ≤ z) (z1 : z < (pos ls).length) : ∃ h, (pos ls)[z.toNat]? = some h ∧ atI ((pos ls).map V.int) z = some (.int h) ∧ 0 ≤ h ∧ h < ls.length ∧ 0 < gI ls h := by
  obtain ⟨m, rfl⟩ := Int.eq_ofNat_of_zero_le z0
  have hm : m < (pos ls).length := by omega
  have e : (pos ls)[m]? = some (pos ls)[m] := by simp [hm]
  refine ⟨(pos ls)[m], e, atI_nat ?_, mem_pos (List.mem_of_getElem? e)⟩
  rw [List.getElem?_map, e]; rfl
theorem ok_note {f : Addr} {fd : FuncData} (F : Fun K "_law_note" "_law_note" s_Lnote f fd) (F_Ldraw : FnAt P w K mg base 2 "_law_draw" ["bag", "many"] (spDraw K)) (Bt : Blt mg) : FnOk P w K mg base CX0 3 f fd ["bag", "counts"] (spNote K) := by
  refine F.ok sc_Lnote (fun vs H Q E h => ?_) (fun cdv A outer s H vs Q E hr h => ?_)
  · obtain ⟨r, b, n, a, cs, rfl, _⟩ := h
    rfl
  · obtain ⟨r, b, n, a, cs, rfl, B0, hn, ha, nar, ok, kN, k⟩ := h
    refine ⟨_, (pss_cons (ps_setC (i := 2) rfl sc_Lnote.nd rfl (Or.inl rfl) (N := ["hand", "counts"]) (own := ["hand"]) (caps := [1]) (CompScope.of (by kernel_rfl)) (pi_range1 (by rfl) Bt.b_range (pa_cons (pe_callB (call_len_seqK (K := K) rfl) (by rfl) Bt.b_len bt_len (pa_cons (pv 1) pa_nil)) pa_nil)) (fun _ _ _ _ => (pg_name (i := 0) (show List.Nodup (["hand", "counts"] : List Str) by decide +kernel) rfl (Or.inl rfl))) (fun _ _ _ _ => (pts_one (pt_cmpR op_gt (pe_ix (ix_listK (K := K) rfl) (pv 1) (pv 0) (fun _ _ => rfl)) pe_int (nomark _)))) (fun _ _ _ _ => (pv 0)))
      (pss_cons (ps_if (pt_cmpR op_lt (pe_callB (call_len_seqK (K := K) rfl) (by rfl) Bt.b_len bt_len (pa_cons (pv 2) pa_nil)) pe_int (nomark _)) (pss_one (ps_ret pe_non)) pss_nil)
      (pss_cons (ps_set (i := 3) sc_Lnote.nd rfl (Or.inl rfl) (pe_fn F_Ldraw (hr.mono (by decide)) (by rfl) (pa_cons (pv 0) (pa_cons (pe_callB (call_len_seqK (K := K) rfl) (by rfl) Bt.b_len bt_len (pa_cons (pv 2) pa_nil)) pa_nil))))
      (pss_cons (ps_set (i := 4) sc_Lnote.nd rfl (Or.inl rfl) (pe_op op_mod (pe_op op_add (pe_op op_add (pv 3) pe_int) (pe_fn F_Ldraw (hr.mono (by decide)) (by rfl) (pa_cons (pv 0) (pa_cons (pe_op op_sub (pe_callB (call_len_seqK (K := K) rfl) (by rfl) Bt.b_len bt_len (pa_cons (pv 2) pa_nil)) pe_int) pa_nil)))) (pe_callB (call_len_seqK (K := K) rfl) (by rfl) Bt.b_len bt_len (pa_cons (pv 2) pa_nil))))
      (pss_one (ps_ret (pe_tup (pa_cons (pe_ix (ix_listK (K := K) rfl) (pv 2) (pv 3) (fun _ _ => rfl)) (pa_cons (pe_fn F_Ldraw (hr.mono (by decide)) (by rfl) (pa_cons (pv 0) (pa_cons (pe_ix (ix_listK (K := K) rfl) (pv 1) (pe_ix (ix_listK (K := K) rfl) (pv 2) (pv 3) (fun _ _ => rfl)) (fun _ _ => rfl)) pa_nil))) (pa_cons (pe_ix (ix_listK (K := K) rfl) (pv 2) (pv 4) (fun _ _ => rfl)) (pa_cons (pe_fn F_Ldraw (hr.mono (by decide)) (by rfl) (pa_cons (pv 0) (pa_cons (pe_ix (ix_listK (K := K) rfl) (pv 1) (pe_ix (ix_listK (K := K) rfl) (pv 2) (pv 4) (fun _ _ => rfl)) (fun _ _ => rfl)) pa_nil))) pa_nil))))))))))), ?_⟩
    have c8 := ok.1
    refine ⟨_, rfl, a, _, rfl, .inl (SqL.of ha), _, rfl, by rw [List.length_map]; omega, by rw [List.length_map]; omega, fun D hD => ?_⟩
    have lnm : (((cs.map V.int).length : Nat) : Int).toNat = cs.length := by simp
    rw [lnm]
    refine comp_valR (fun (i : Nat) => if gI cs (i : Int) > 0 then some (V.int (0 + (i : Int))) else none) hD (by omega) (fun j H3 G F hj s3 kG kF => ?_) (fun H3 s3 e3 => ?_)
    · refine ⟨_, rfl, _, rfl, _, _, _, _, rfl, rfl, SqL.of (s3 _ _ ha), (atI_gI (h := 0 + (j : Int)) (by omega) (by omega)), _, _, rfl, rfl, _, rfl, ?_⟩
      have ej : (0 + (j : Int)) = (j : Int) := by omega
      rw [ej]
      refine ite2 (fun q => ?_) (fun q => ?_)
      · have q := of_decide_eq_true q
        refine ⟨_, rfl, kF _ H3 (Same.refl _) ?_⟩
        rw [if_pos q, ej]
      · have q : ¬ gI cs (j : Int) > 0 := fun z => q (decide_eq_true z)
        exact kG H3 (Same.refl _) (if_neg q)
    · rw [pos_map] at e3
      have B3 := B0.keep s3
      have nD : D ≠ r := (B0.ne hD).1
      have p8 := pos_len cs
      have k3 : Kp r H H3 := .of_same s3
      refine ⟨_, rfl, D, _, rfl, .inl (SqL.of e3), _, _, rfl, rfl, _, rfl, ?_⟩
      refine ite2 (fun q => ?_) (fun q => ?_)
      · exact kN H3 (by have := of_decide_eq_true q; rw [List.length_map] at this; omega) (B3.mono (by omega)) k3
      · have hp2 : 2 ≤ (pos cs).length := by
          have : ¬ (((pos cs).map V.int).length : Int) < 2 := fun z => q (decide_eq_true z)
          rw [List.length_map] at this
          omega
        -- i, j
        refine ⟨_, rfl, _, rfl, D, _, rfl, .inl (SqL.of e3), r, b, _, n, rfl, B3, by omega, by rw [List.length_map]; omega, by rw [List.length_map]; omega, fun i H4 i0 i1 B4 k4 => ?_⟩
        rw [List.length_map] at i1
        have e4 := k4 _ _ e3 nD
        refine ⟨_, rfl, _, _, rfl, rfl, _, rfl, _, rfl, D, _, rfl, .inl (SqL.of e4), _, _, rfl, rfl, r, b, _, n + 1, rfl, B4, by omega, by show (0 : Int) < (((pos cs).map V.int).length : Int) - 1; rw [List.length_map]; omega, by show (((pos cs).map V.int).length : Int) - 1 < _; rw [List.length_map]; omega, fun z H5 z0 z1 B5 k5 => ?_⟩
        have z1' : z < ((pos cs).length : Int) - 1 := by rw [← List.length_map (f := V.int)]; exact z1
        have e5 := k5 _ _ e4 nD
        refine ⟨_, _, rfl, rfl, _, rfl, D, _, rfl, .inl (SqL.of e5), _, _, rfl, rfl, by rw [List.length_map]; omega, ?_⟩
        have j0 : 0 ≤ (i + 1 + z) % ((pos cs).length : Int) := Int.emod_nonneg _ (by omega)
        have j1 : (i + 1 + z) % ((pos cs).length : Int) < (pos cs).length := Int.emod_lt_of_pos _ (by omega)
        have nij : i ≠ (i + 1 + z) % ((pos cs).length : Int) := by
          by_cases w : i + 1 + z < (pos cs).length
          · rw [Int.emod_eq_of_lt (by omega) w]; omega
          · have : (i + 1 + z) % ((pos cs).length : Int) = i + 1 + z - (pos cs).length := by
              rw [← Int.sub_emod_right, Int.emod_eq_of_lt (by omega) (by omega)]
            omega
        have ej : (fun (i : Int) (j : Int) => V.int (i % j)) (i + 1 + z) (((pos cs).map V.int).length : Int) = V.int ((i + 1 + z) % ((pos cs).length : Int)) := by show V.int _ = _; rw [List.length_map]
        generalize (i + 1 + z) % ((pos cs).length : Int) = j at j0 j1 nij ej
        obtain ⟨hi, ehi, ati, hi0, hi1, hi2⟩ := pos_at i0 i1
        obtain ⟨hj, ehj, atj, hj0, hj1, hj2⟩ := pos_at j0 j1
        have nh : hi ≠ hj := fun z => by
          have nd := List.pairwise_iff_getElem.mp (pos_nodup cs)
          subst z
          obtain ⟨a1, a2⟩ := List.getElem?_eq_some_iff.mp ehi
          obtain ⟨b1, b2⟩ := List.getElem?_eq_some_iff.mp ehj
          rcases Int.lt_or_gt_of_ne nij with w | w
          · exact nd _ _ a1 b1 (by omega) (a2.trans b2.symm)
          · exact nd _ _ b1 a1 (by omega) (b2.trans a2.symm)
        have ha5 := k5 _ _ (k4 _ _ (s3 _ _ ha) nar) nar
        have ghi := ok.gI hi
        have ghj := ok.gI hj
        refine ⟨_, rfl, _, rfl, _, _, _, _, rfl, rfl, SqL.of e5, ati, _, rfl, _, rfl, _, rfl, _, rfl, _, _, _, _, rfl, rfl, SqL.of e5, ati, _, _, _, _, rfl, rfl, SqL.of ha5, atI_gI hi0 hi1, r, b, _, _, rfl, B5, by omega, hi2, by omega, fun u H6 u0 u1 B6 k6 => ?_⟩
        have e6 := k6 _ _ e5 nD
        have ha6 := k6 _ _ ha5 nar
        refine ⟨_, rfl, _, rfl, _, _, _, _, rfl, ej, SqL.of e6, atj, _, rfl, _, rfl, _, rfl, _, rfl, _, _, _, _, rfl, ej, SqL.of e6, atj, _, _, _, _, rfl, rfl, SqL.of ha6, atI_gI hj0 hj1, r, b, _, _, rfl, B6, by omega, hj2, by omega, fun v H7 v0 v1 B7 k7 => ?_⟩
        refine ⟨(by show 4 ≤ sizeLine; decide), fun t ht => ?_⟩
        have st := same_new (o := HO.tup [V.int hi, V.int u, V.int hj, V.int v]) ht
        have kk : Kp r H H7 := (((k3.trans k4).trans k5).trans k6).trans k7
        exact k t (hi, u, hj, v) _ (Kp.new kk ht B7.at) upd_same ⟨⟨hi0, hi1⟩, ⟨u0, u1⟩, ⟨hj0, hj1⟩, ⟨v0, v1⟩, nh⟩ (B7.keep st) (kk.trans (.of_same st))

theorem eqv_nD (x y : Nt) : PyData.eqv (nD x) (nD y) = decide (x = y) := by
  obtain ⟨a, b, c, d⟩ := x
  obtain ⟨a', b', c', d'⟩ := y
  simp only [nD, PyData.eqv, PyData.eqvAll, Bool.and_true]
  by_cases e1 : a = a'
  · subst e1
    by_cases e2 : b = b'
    · subst e2
      by_cases e3 : c = c'
      · subst e3
        by_cases e4 : d = d'
        · subst e4; simp
        · simp [e4]
      · simp [e3]
    · simp [e2]
  · simp [e1]
theorem shaped_nts (ns : List Nt) : SeqAt.shaped (.list (ns.map nD)) = true :=
  shaped_list nD 1 (by decide) (fun _ _ => rfl) (fun _ _ => by show (max 0 (max 0 (max 0 (max 0 0)))) + 1 ≤ 1; decide)
/-- a record at t: its counts at c, its notes at a -/
def RecAt (H : Hp) (t c a : Addr) (cs : List Int) (ns : List Nt) : Prop := H t = some (.tup [.ref c, .ref a]) ∧ H c = some (.lst (cs.map V.int)) ∧ NtsAt H a ns
theorem RecAt.same {H H' : Hp} {t c a : Addr} {cs : List Int} {ns : List Nt} (h : RecAt H t c a cs ns) (k : Same H H') : RecAt H' t c a cs ns := ⟨k _ _ h.1, k _ _ h.2.1, h.2.2.same k⟩
def RecOk (cs : List Int) (ns : List Nt) : Prop := CsOk cs ∧ ns.length ≤ 100 ∧ ∀ x ∈ ns, NtOk cs x

def spRecordD (K : PySem.W.Frag) : Sp := fun vs H Q _ => ∃ (r b : Addr) (n : Nat) (g : Int), vs = [.ref r, .int g] ∧ (g = 0 ∨ g = 1) ∧ BagOk H r b n ∧ n < 137438953472 ∧ ∀ (t c a : Addr) (cs : List Int) (ns : List Nt) (H' : Hp), H t = none → H c = none → H a = none → RecAt H' t c a cs ns → RecOk cs ns → (g = 0 → CsSm cs) → BagOk H' r b (n + 4000) → Kp r H H' → c ≠ a → ns.length ≤ 60 → Q (.ref t) H'
theorem cut4a (a b c d : V) : cutV [a, b, c, d] none (some 2) = [a, b] := cut_take _ 2
theorem cut4b (a b c d : V) : cutV [a, b, c, d] (some 2) none = [c, d] := cut_drop _ 2
theorem part4a {α : Type} (xs : List α) (h : xs.length = 4) : ¬ (HT.sIx xs.length 0 none = 0 ∧ HT.sIx xs.length xs.length (some 2) = xs.length) := by
  rw [h]; decide
theorem part4b {α : Type} (xs : List α) (h : xs.length = 4) : ¬ (HT.sIx xs.length 0 (some 2) = 0 ∧ HT.sIx xs.length xs.length none = xs.length) := by
  rw [h]; decide

theorem nts_ins {H : Hp} {vs : List V} {ns : List Nt} {v : V} {x : Nt} (i : Nat) (d : Dats H vs (ns.map nD)) (dv : Dat H v (nD x)) : Dats H (vs.take i ++ v :: vs.drop i) ((ns.take i ++ x :: ns.drop i).map nD) := by
  rw [List.map_append, List.map_cons, List.map_take, List.map_drop]
  refine Dats.append (d.take i) ?_
  simp only [Dats]
  exact ⟨dv, d.drop i⟩
theorem mem_ins {ns : List Nt} {x y : Nt} {i : Nat} (h : y ∈ ns.take i ++ x :: ns.drop i) : y = x ∨ y ∈ ns := by
  rcases List.mem_append.mp h with h | h
  · exact .inr (List.mem_of_mem_take h)
  · rcases List.mem_cons.mp h with h | h
    · exact .inl h
    · exact .inr (List.mem_of_mem_drop h)
theorem len_ins (ns : List Nt) (x : Nt) (i : Nat) : (ns.take i ++ x :: ns.drop i).length = ns.length + 1 := by
  simp only [List.length_append, List.length_cons, List.length_take, List.length_drop]
  omega
theorem spot_get {kvs : List (List Key × V)} {cs os : List Int} {h k : Int} (S : SpotOk kvs os) (O : OrdOk cs os) (h0 : 0 ≤ h) (h1 : h < cs.length) (k0 : 0 ≤ k) (k1 : k < gI cs h) : ∃ z : Int, valV kvs [Sum.inl h, Sum.inl k] = some (.int z) := by
  have q := O.2 h h0 h1
  obtain ⟨z, e, _⟩ := S h k.toNat (by omega)
  have : ((k.toNat : Nat) : Int) = k := by omega
  rw [this] at e
  exact ⟨(z : Int), e⟩
theorem ok_recordD {f : Addr} {fd : FuncData} (F : Fun K "_law_record" "_law_record" s_Lrecord f fd) (F_Ldraw : FnAt P w K mg base 2 "_law_draw" ["bag", "many"] (spDraw K)) (F_Lcounts : FnAt P w K mg base 3 "_law_counts" ["bag", "great"] (spCounts K)) (F_Lorder : FnAt P w K mg base 3 "_law_order" ["bag", "counts"] (spOrder K)) (F_Lspots : FnAt P w K mg base 1 "_law_spots" ["order"] (spSpots K)) (F_Lnote : FnAt P w K mg base 3 "_law_note" ["bag", "counts"] (spNote K)) (Bt : Blt mg) : FnOk P w K mg base CX0 4 f fd ["bag", "great"] (spRecordD K) := by
  refine F.ok sc_Lrecord (fun vs H Q E h => ?_) (fun cdv A outer s H vs Q E hr h => ?_)
  · obtain ⟨r, b, n, g, rfl, _⟩ := h
    rfl
  · obtain ⟨r, b, n, g, rfl, hg, B0, hn, k⟩ := h
    have hu := hu_of hr
    have hu64 := hr.units
    refine ⟨_, (pss_cons (ps_set (i := 2) sc_Lrecord.nd rfl (Or.inl rfl) (pe_fn F_Ldraw (hr.mono (by decide)) (by rfl) (pa_cons (pv 0) (pa_cons pe_int pa_nil))))
      (pss_cons (ps_set (i := 3) sc_Lrecord.nd rfl (Or.inl rfl) (pe_fn F_Ldraw (hr.mono (by decide)) (by rfl) (pa_cons (pv 0) (pa_cons pe_int pa_nil))))
      (pss_cons (ps_set (i := 4) sc_Lrecord.nd rfl (Or.inl rfl) (pe_fn F_Lcounts (hr.mono (by decide)) (by rfl) (pa_cons (pv 0) (pa_cons (pv 1) pa_nil))))
      (pss_cons (ps_set (i := 5) sc_Lrecord.nd rfl (Or.inl rfl) (pe_fn F_Lspots (hr.mono (by decide)) (by rfl) (pa_cons (pe_fn F_Lorder (hr.mono (by decide)) (by rfl) (pa_cons (pv 0) (pa_cons (pv 4) pa_nil))) pa_nil)))
      (pss_cons (ps_set (i := 6) sc_Lrecord.nd rfl (Or.inl rfl) (pe_lst pa_nil))
      (pss_cons (ps_for PassesOwn.never rfl (pi_range1 (by rfl) Bt.b_range (pa_cons (pe_fn F_Ldraw (hr.mono (by decide)) (by rfl) (pa_cons (pv 0) (pa_cons (pe_ix (ix_listK (K := K) rfl) (pe_lst (pa_cons pe_int (pa_cons pe_int pa_nil))) (pv 1) (fun _ _ => rfl)) pa_nil))) pa_nil)) (pg_name (i := 7) sc_Lrecord.nd rfl (Or.inl rfl))
      (pss_cons (ps_set (i := 8) sc_Lrecord.nd rfl (Or.inl rfl) (pe_fn F_Lnote (hr.mono (by decide)) (by rfl) (pa_cons (pv 0) (pa_cons (pv 4) pa_nil))))
      (pss_cons (ps_set (i := 9) sc_Lrecord.nd rfl (Or.inl rfl) (pe_or (pe_cmpR op_eq (pv 2) pe_int (nomark _)) (pe_one (pe_and (pe_cmpR op_eq (pv 2) pe_int (nomark _)) (pe_one (pe_cmpR op_gt (pe_fn F_Ldraw (hr.mono (by decide)) (by rfl) (pa_cons (pv 0) (pa_cons pe_int pa_nil))) pe_int (nomark _)))))))
      (pss_one (ps_if (pt_cmpR op_notN (pv 8) pe_non (nomark _)) (pss_cons (ps_if (PW.pt (pw_and (pt_val (pv 9)) (pw_and1 (pt_cmpR op_gt (pe_dget hu (pv 5) (pe_slice (sl_tupK (K := K) rfl) (pv 8) po_none (po_some pe_int)) (fun _ _ => rfl)) (pe_dget hu (pv 5) (pe_slice (sl_tupK (K := K) rfl) (pv 8) (po_some pe_int) po_none) (fun _ _ => rfl)) (nomark _))))) (pss_one (ps_set (i := 8) sc_Lrecord.nd rfl (Or.inl rfl) (pe_op (op_catTK (K := K) rfl) (pe_slice (sl_tupK (K := K) rfl) (pv 8) (po_some pe_int) po_none) (pe_slice (sl_tupK (K := K) rfl) (pv 8) po_none (po_some pe_int))))) pss_nil)
      (pss_one (ps_expr (pe_bmK (K := K) rfl PySem.F.plainAttrs_list PySem.F.slot_list_insert PySem.F.type_list_insert mt_insert (pv 6) (pa_cons (pe_fn F_Ldraw (hr.mono (by decide)) (by rfl) (pa_cons (pv 0) (pa_cons (pe_op op_add (pe_callB (call_len_seqK (K := K) rfl) (by rfl) Bt.b_len bt_len (pa_cons (pv 6) pa_nil)) pe_int) pa_nil))) (pa_cons (pv 8) pa_nil)))))) pss_nil)))))
      (pss_cons (ps_if (PW.pt (pw_and (pt_cmpR op_eq (pv 3) pe_int (nomark _)) (pw_and1 (pt_cmpR (op_neDK (K := K) rfl hu64) (pv 6) (pe_lst pa_nil) (nomark _))))) (pss_one (ps_expr (pe_bmK (K := K) rfl PySem.F.plainAttrs_list PySem.F.slot_list_insert PySem.F.type_list_insert mt_insert (pv 6) (pa_cons (pe_fn F_Ldraw (hr.mono (by decide)) (by rfl) (pa_cons (pv 0) (pa_cons (pe_op op_add (pe_callB (call_len_seqK (K := K) rfl) (by rfl) Bt.b_len bt_len (pa_cons (pv 6) pa_nil)) pe_int) pa_nil))) (pa_cons (pe_ix (ix_listK (K := K) rfl) (pv 6) (pe_fn F_Ldraw (hr.mono (by decide)) (by rfl) (pa_cons (pv 0) (pa_cons (pe_callB (call_len_seqK (K := K) rfl) (by rfl) Bt.b_len bt_len (pa_cons (pv 6) pa_nil)) pa_nil))) (fun _ _ => rfl)) pa_nil))))) pss_nil)
      (pss_one (ps_ret (pe_tup (pa_cons (pv 4) (pa_cons (pv 6) pa_nil)))))))))))), ?_⟩
    refine ⟨_, rfl, r, b, 3, n, rfl, B0, by omega, by decide, by decide, fun mode H1 m0 m1 B1 k1 => ?_⟩
    refine ⟨_, rfl, r, b, 3, n + 1, rfl, B1, by omega, by decide, by decide, fun twice H2 w0 w1 B2 k2 => ?_⟩
    refine ⟨_, rfl, _, rfl, r, b, n + 2, g, rfl, hg, B2, by omega, fun c cs H3 hc0 hc ok csm B3 k3 => ?_⟩
    have nc : c ≠ r := (B2.ne hc0).1
    refine ⟨_, rfl, _, rfl, r, b, n + 22, c, cs, rfl, B3, by omega, hc, nc, ok, fun o os H4 ho0 ho oo _ B4 k4 => ?_⟩
    have no : o ≠ r := (B3.ne ho0).1
    refine ⟨o, os, rfl, ho, oo.1, fun d kvs H5 hd0 hd S s5 => ?_⟩
    have nd : d ≠ r := (B4.ne hd0).1
    have hc5 := s5 _ _ (k4 _ _ hc nc)
    have B5 := B4.keep s5
    refine ⟨(by show 0 ≤ sizeLine; decide), fun a ha0 => ?_⟩
    have s6 := same_new (o := HO.lst []) ha0
    have B6 := B5.keep s6
    have na := B5.ne ha0
    have hc6 := s6 _ _ hc5
    have hd6 := s6 _ _ hd
    have nca : c ≠ a := ne_of_none hc5 ha0
    have nda : d ≠ a := ne_of_none hd ha0
    have kA : Kp r H (upd H5 a (.lst [])) := ((((k1.trans k2).trans k3).trans k4).trans (.of_same s5)).trans (.of_same s6)
    have fr_c : H c = none := Kp.new (k1.trans k2) hc0 B2.at
    have fr_a : H a = none := Kp.new ((((k1.trans k2).trans k3).trans k4).trans (.of_same s5)) ha0 B5.at
    -- the number of notes
    refine ⟨_, rfl, (by show 2 ≤ sizeLine; decide), fun p hp => ?_⟩
    have s7 := same_new (o := HO.lst [V.int 13, V.int 41]) hp
    obtain ⟨mx, emx, x0, x1⟩ : ∃ mx : Int, atI [V.int 13, V.int 41] g = some (V.int mx) ∧ 0 < mx ∧ mx ≤ 41 := by
      rcases hg with rfl | rfl
      · exact ⟨13, rfl, by decide, by decide⟩
      · exact ⟨41, rfl, by decide, by decide⟩
    refine ⟨_, rfl, _, _, _, _, rfl, rfl, SqL.of upd_same, emx, r, b, mx, _, rfl, B6.keep s7, by omega, x0, by omega, fun many H8 y0 y1 B8 k8 => ?_⟩
    refine ⟨many, rfl, by omega, by omega, ?_⟩
    have hc8 := k8 _ _ (s7 _ _ hc6) nc
    have hd8 := k8 _ _ (s7 _ _ hd6) nd
    have kB : Kp r H H8 := (kA.trans (.of_same s7)).trans k8
    -- what is put to the notes: a draw, then the insertion
    refine for_range (lo := 0) (n := many.toNat) (fun i σ H9 => ∃ (ns : List Nt) (x1 x2 x3 : Option V), σ = [some (.ref r), some (.int g), some (.int mode), some (.int twice), some (.ref c), some (.ref d), some (.ref a), x1, x2, x3] ∧
        H9 c = some (.lst (cs.map V.int)) ∧ H9 d = some (.dT kvs) ∧ NtsAt H9 a ns ∧ ns.length ≤ i ∧ (∀ x ∈ ns, NtOk cs x) ∧ BagOk H9 r b (n + 2500 + 10 * i) ∧ Kp r H H9)
      ⟨[], none, none, none, rfl, hc8, hd8, ⟨[], k8 _ _ (s7 _ _ upd_same) na.1, by simp only [List.map_nil, Dats]⟩, Nat.le_refl _, (fun x hx => by cases hx), B8.mono (by omega), kB⟩ ?_ ?_
    · rintro i σ H9 hi ⟨ns, v1, v2, v3, rfl, hc9, hd9, N9, nl, nok, B9, k9⟩
      obtain ⟨bl, hbl⟩ := B9.lst
      -- note = _law_note(bag, counts)
      refine seq_cps (fun σ H10 => ∃ (nv : V), σ = [some (.ref r), some (.int g), some (.int mode), some (.int twice), some (.ref c), some (.ref d), some (.ref a), some (.int (0 + i)), some nv, v3] ∧ (nv = .non ∨ ∃ t x, nv = .ref t ∧ H10 t = some (.tup (nV x)) ∧ NtOk cs x) ∧ BagOk H10 r b (n + 2500 + 10 * i + 4) ∧ Kp r H9 H10) (fun D' hD' _ => ?_) ?_
      · exact ⟨_, rfl, _, rfl, r, b, _, c, cs, rfl, B9, by omega, hc9, nc, ok, fun H10 _ B10 k10 => hD' _ _ ⟨_, rfl, .inl rfl, B10, k10⟩, fun t x H10 ht0 ht nx B10 k10 => hD' _ _ ⟨_, rfl, .inr ⟨t, x, rfl, ht, nx⟩, B10, k10⟩⟩
      rintro σ H10 ⟨nv, rfl, hnv, B10, k10⟩
      -- along
      refine seq_cps (fun σ H11 => ∃ (al : Bool), σ = [some (.ref r), some (.int g), some (.int mode), some (.int twice), some (.ref c), some (.ref d), some (.ref a), some (.int (0 + i)), some nv, some (.bl al)] ∧ BagOk H11 r b (n + 2500 + 10 * i + 5) ∧ Kp r H10 H11) (fun D' hD' _ => ?_) ?_
      · refine ⟨_, rfl, rfl, _, rfl, ?_⟩
        refine ite2 (fun _ => ?_) (fun _ => ?_)
        · exact hD' _ _ ⟨true, rfl, B10.mono (by omega), Kp.refl _ _⟩
        · refine ⟨_, rfl, rfl, _, rfl, ?_⟩
          refine ite2 (fun _ => ?_) (fun _ => ?_)
          · exact ⟨_, rfl, r, b, 8, _, rfl, B10, by omega, by decide, by decide, fun z H11 z0 z1 B11 k11 => ⟨_, _, rfl, rfl, hD' _ _ ⟨_, rfl, B11, k11⟩⟩⟩
          · exact hD' _ _ ⟨false, rfl, B10.mono (by omega), Kp.refl _ _⟩
      rintro σ H11 ⟨al, rfl, B11, k11⟩
      have k911 := k10.trans k11
      have tp : ∀ a xs, H9 a = some (HO.tup xs) → H11 a = some (HO.tup xs) := fun a xs h => B10.tups k11 _ _ (B9.tups k10 _ _ h)
      have hc11 := k911 _ _ hc9 nc
      have hd11 := k911 _ _ hd9 nd
      have N11 : NtsAt H11 a ns := N9.kp tp k911 na.1
      have kH11 := k9.trans k911
      refine ⟨_, rfl, rfl, _, rfl, ?_⟩
      rcases hnv with rfl | ⟨t, x, rfl, ht, nx⟩
      · refine ite2 (fun q => absurd q (by simp)) (fun _ => ?_)
        exact ⟨ns, _, _, _, rfl, hc11, hd11, N11, by omega, nok, B11.mono (by omega), kH11⟩
      refine ite2 (fun _ => ?_) (fun q => absurd (by simp) q)
      have ht11 := B10.tups k11 _ _ ht
      -- turned along
      refine seq_cps (fun σ H12 => ∃ (t' : Addr) (x' : Nt), σ = [some (.ref r), some (.int g), some (.int mode), some (.int twice), some (.ref c), some (.ref d), some (.ref a), some (.int (0 + i)), some (.ref t'), some (.bl al)] ∧ H12 t' = some (.tup (nV x')) ∧ NtOk cs x' ∧ Same H11 H12) (fun D' hD' _ => ?_) ?_
      · refine ⟨_, rfl, al, rfl, ?_⟩
        cases al with
        | false => exact iteF (hD' _ _ ⟨t, x, rfl, ht11, nx, Same.refl _⟩)
        | true =>
          refine iteT ?_
          obtain ⟨⟨h0, h1⟩, ⟨k0, k1⟩, ⟨o0, o1⟩, ⟨m0, m1⟩, hne⟩ := id nx
          obtain ⟨z1, e1⟩ := spot_get S oo h0 h1 k0 k1
          obtain ⟨z2, e2⟩ := spot_get S oo o0 o1 m0 m1
          refine ⟨_, rfl, _, rfl, _, rfl, _, _, rfl, SqT.of ht11, part4a _ rfl, fun p1 hp1 => ?_⟩
          have c1 : cutV (nV x) none (some 2) = [.int x.1, .int x.2.1] := cut4a ..
          rw [c1]
          have sp1 := same_new (o := HO.tup [V.int x.1, V.int x.2.1]) hp1
          refine ⟨d, _, rfl, e1 ▸ DGet.t (k := [Sum.inl x.1, Sum.inl x.2.1]) (sp1 _ _ hd11) upd_same, ?_⟩
          have ht12 := sp1 _ _ ht11
          refine ⟨_, rfl, _, rfl, _, rfl, _, _, rfl, SqT.of ht12, part4b _ rfl, fun p2 hp2 => ?_⟩
          have c2 : cutV (nV x) (some 2) none = [.int x.2.2.1, .int x.2.2.2] := cut4b ..
          rw [c2]
          have sp2 := same_new (o := HO.tup [V.int x.2.2.1, V.int x.2.2.2]) hp2
          refine ⟨d, _, rfl, e2 ▸ DGet.t (k := [Sum.inl x.2.2.1, Sum.inl x.2.2.2]) (sp2 _ _ (sp1 _ _ hd11)) upd_same, _, _, rfl, rfl, _, rfl, ?_⟩
          have ht13 := sp2 _ _ ht12
          have s13 := sp1.trans sp2
          refine ite2 (fun _ => ?_) (fun _ => ?_)
          · refine ⟨_, rfl, _, rfl, _, _, rfl, SqT.of ht13, part4b _ rfl, fun p3 hp3 => ?_⟩
            rw [c2]
            have sp3 := same_new (o := HO.tup [V.int x.2.2.1, V.int x.2.2.2]) hp3
            refine ⟨_, rfl, _, rfl, _, _, rfl, SqT.of (sp3 _ _ ht13), part4a _ rfl, fun p4 hp4 => ?_⟩
            rw [c1]
            have sp4 := same_new (o := HO.tup [V.int x.1, V.int x.2.1]) hp4
            refine ⟨_, _, _, _, rfl, rfl, SqT.of (sp4 _ _ upd_same), SqT.of upd_same, by simp, (by show 4 ≤ sizeLine; decide), fun z => by simp at z, fun _ p5 hp5 => ?_⟩
            refine hD' _ _ ⟨p5, (x.2.2.1, x.2.2.2, x.1, x.2.1), rfl, upd_same, ⟨⟨o0, o1⟩, ⟨m0, m1⟩, ⟨h0, h1⟩, ⟨k0, k1⟩, hne.symm⟩, ((s13.trans sp3).trans sp4).trans (same_new hp5)⟩
          · exact hD' _ _ ⟨t, x, rfl, ht13, nx, s13⟩
      rintro σ H12 ⟨t', x', rfl, ht', nx', s12⟩
      have N12 := N11.same s12
      have B12 := B11.keep s12
      obtain ⟨vs, hA, dA⟩ := id N12
      have vl : vs.length = ns.length := by rw [dA.length, List.length_map]
      refine ⟨_, rfl, .inl ⟨rfl, _, SqL.of hA⟩, _, rfl, _, rfl, a, _, rfl, .inl (SqL.of hA), _, _, rfl, rfl, r, b, _, _, rfl, B12, by omega, by omega, by omega, fun z H13 z0 z1 B13 k13 => ?_⟩
      have N13 := N12.kp (B12.tups k13) k13 na.1
      obtain ⟨vs', hA', dA'⟩ := id N13
      have vl' : vs'.length = ns.length := by rw [dA'.length, List.length_map]
      refine ⟨_, rfl, a, vs', z, _, rfl, rfl, hA', z0, by omega, by rw [sizeLine_eq]; omega, ?_⟩
      have kA14 : Kp a H13 (upd H13 a (.lst (vs'.take z.toNat ++ V.ref t' :: vs'.drop z.toNat))) := Kp.set
      have tp14 := kA14.tups hA'
      refine ⟨ns.take z.toNat ++ x' :: ns.drop z.toNat, _, _, _, rfl, kA14 _ _ (k13 _ _ (s12 _ _ hc11) nc) nca, kA14 _ _ (k13 _ _ (s12 _ _ hd11) nd) nda, ⟨_, upd_same, ?_⟩, by rw [len_ins]; omega, fun y hy => ?_, (B13.kp kA14 na.1.symm na.2.symm).mono (by omega), ?_⟩
      · refine nts_ins _ (Dats.keep tp14 _ (imms_map _ imm_nD ns) dA') (dat_nt (tp14 _ _ (B12.tups k13 _ _ ht')))
      · rcases mem_ins hy with rfl | hy
        · exact nx'
        · exact nok y hy
      · intro q u e nq
        have : q ≠ a := ne_of_none e fr_a
        exact kA14 _ _ (k13 _ _ (s12 _ _ (kH11 _ _ e nq)) nq) this
    · rintro σ H9 ⟨ns, v1, v2, v3, rfl, hc9, hd9, N9, nl, nok, B9, k9⟩
      have fin : ∀ (ms : List Nt) (H : Hp), True := fun _ _ => trivial
      -- twice
      dsimp only
      refine seq_cps (fun σ H10 => ∃ (ms : List Nt), σ = [some (.ref r), some (.int g), some (.int mode), some (.int twice), some (.ref c), some (.ref d), some (.ref a), v1, v2, v3] ∧ H10 c = some (.lst (cs.map V.int)) ∧ NtsAt H10 a ms ∧ ms.length ≤ 50 ∧ (∀ x ∈ ms, NtOk cs x) ∧ BagOk H10 r b (n + 3500) ∧ Kp r H H10) (fun D' hD' _ => ?_) ?_
      · have same : D'.nx [some (.ref r), some (.int g), some (.int mode), some (.int twice), some (.ref c), some (.ref d), some (.ref a), v1, v2, v3] H9 := hD' _ _ ⟨ns, rfl, hc9, N9, by omega, nok, B9.mono (by omega), k9⟩
        refine ⟨_, rfl, rfl, _, rfl, ?_⟩
        refine ite2 (fun _ => ?_) (fun _ => same)
        obtain ⟨vs, hA, dA⟩ := id N9
        have vl : vs.length = ns.length := by rw [dA.length, List.length_map]
        refine ⟨_, rfl, (by show 0 ≤ sizeLine; decide), fun p1 hp1 => ?_⟩
        have sp1 := same_new (o := HO.lst []) hp1
        have N10 := N9.same sp1
        obtain ⟨vs1, hA1, dA1⟩ := id N10
        refine ⟨_, _, dat_list hA1 dA1, dat_list (ds := ([] : List Nt).map nD) upd_same (by simp only [List.map_nil, Dats]), shaped_nts ns, shaped_nts [], _, rfl, ?_⟩
        rw [if_pos rfl, eqv_list nD eqv_nD]
        have vl1 : vs1.length = ns.length := by rw [dA1.length, List.length_map]
        by_cases e0 : ns = []
        · subst e0
          refine ite2 (fun q => absurd q (by simp)) (fun _ => ?_)
          exact hD' _ _ ⟨[], rfl, sp1 _ _ hc9, N10, by simp, nok, (B9.keep sp1).mono (by omega), k9.trans (.of_same sp1)⟩
        refine ite2 (fun _ => ?_) (fun q => absurd (by simp [e0]) q)
        have npos : 0 < ns.length := List.length_pos_iff.mpr e0
        have B10 := B9.keep sp1
        have hc10 := sp1 _ _ hc9
        refine ⟨_, rfl, .inl ⟨rfl, _, SqL.of hA1⟩, _, rfl, _, rfl, a, _, rfl, .inl (SqL.of hA1), _, _, rfl, rfl, r, b, _, _, rfl, B10, by omega, by omega, by omega, fun z H11 z0 z1 B11 k11 => ?_⟩
        have N11 := N10.kp (B10.tups k11) k11 na.1
        obtain ⟨vs2, hA2, dA2⟩ := id N11
        have vl2 : vs2.length = ns.length := by rw [dA2.length, List.length_map]
        refine ⟨_, rfl, _, rfl, _, rfl, a, _, rfl, .inl (SqL.of hA2), r, b, _, _, rfl, B11, by omega, by omega, by omega, fun u H12 u0 u1 B12 k12 => ?_⟩
        have N12 := N11.kp (B11.tups k12) k12 na.1
        obtain ⟨vs3, hA3, dA3⟩ := id N12
        have vl3 : vs3.length = ns.length := by rw [dA3.length, List.length_map]
        obtain ⟨um, rfl⟩ := Int.eq_ofNat_of_zero_le u0
        have hum : um < vs3.length := by omega
        obtain ⟨x, t, ex, ev, ht⟩ := nts_get dA3 (i := um) (v := vs3[um]) (by simp [hum])
        refine ⟨_, _, _, _, rfl, rfl, SqL.of hA3, atI_nat (v := vs3[um]) (by simp [hum]), a, vs3, z, _, rfl, rfl, hA3, z0, by omega, by rw [sizeLine_eq]; omega, ?_⟩
        have kA14 : Kp a H12 (upd H12 a (.lst (vs3.take z.toNat ++ vs3[um] :: vs3.drop z.toNat))) := Kp.set
        have tp14 := kA14.tups hA3
        refine hD' _ _ ⟨ns.take z.toNat ++ x :: ns.drop z.toNat, rfl, kA14 _ _ (k12 _ _ (k11 _ _ hc10 nc) nc) nca, ⟨_, upd_same, ?_⟩, by rw [len_ins]; omega, fun y hy => ?_, (B12.kp kA14 na.1.symm na.2.symm).mono (by omega), ?_⟩
        · refine nts_ins _ (Dats.keep tp14 _ (imms_map _ imm_nD ns) dA3) ?_
          exact Eq.mpr (congrArg (fun v => Dat (upd H12 a (.lst (vs3.take z.toNat ++ vs3[um] :: vs3.drop z.toNat))) v (nD x)) ev) (dat_nt (tp14 _ _ ht))
        · rcases mem_ins hy with rfl | hy
          · exact nok y (List.mem_of_getElem? ex)
          · exact nok y hy
        · intro q w e nq
          have : q ≠ a := ne_of_none e fr_a
          exact kA14 _ _ (k12 _ _ (k11 _ _ (sp1 _ _ (k9 _ _ e nq)) nq) nq) this
      rintro σ H10 ⟨ms, rfl, hc10, N10, ml, mok, B10, k10⟩
      refine ⟨_, rfl, _, rfl, (by show 2 ≤ sizeLine; decide), fun t ht => ?_⟩
      have st := same_new (o := HO.tup [V.ref c, V.ref a]) ht
      exact k t c a cs ms _ (Kp.new k10 ht B10.at) fr_c fr_a ⟨upd_same, st _ _ hc10, N10.same st⟩ ⟨ok, by omega, mok⟩ csm ((B10.keep st).mono (by omega)) (k10.trans (.of_same st)) nca (by omega)
/-! ### whole numbers -/
def inP (i : Int) (n : Nat) : Prop := 0 ≤ i ∧ i < (n : Int)
instance (i : Int) (n : Nat) : Decidable (inP i n) := inferInstanceAs (Decidable (_ ∧ _))
def spWh (K : PySem.W.Frag) : Sp := fun vs H Q _ => ∃ i : Int, vs = [.int i] ∧ Q (.bl true) H
theorem ok_is_whole {f : Addr} {fd : FuncData} (F : Fun K "is_whole" "is_whole" s_is_whole f fd) (Bt : Blt mg) : FnOk P w K mg base CX0 1 f fd ["value"] (spWh K) := by
  refine F.ok sc_is_whole (fun vs H Q E h => ?_) (fun cdv A outer s H vs Q E hr h => ?_)
  · obtain ⟨i, rfl, _⟩ := h
    rfl
  · obtain ⟨i, rfl, k⟩ := h
    refine ⟨_, (pss_one (ps_ret (pe_and (pe_callB (call_isiK (K := K) (cv := .ty "int") (c := .type "int") rfl rfl) (by rfl) Bt.b_isinstance bt_isinstance (pa_cons (pv 0) (pa_cons (pe_bltn (v := .ty "int") (by rfl) Bt.b_int bt_int rfl) pa_nil))) (pe_one (pe_not (pe_callB (call_isiK (K := K) (cv := .ty "bool") (c := .type "bool") rfl rfl) (by rfl) Bt.b_isinstance bt_isinstance (pa_cons (pv 0) (pa_cons (pe_bltn (v := .ty "bool") (by rfl) Bt.b_bool bt_bool rfl) pa_nil)))))))), ?_⟩
    refine ⟨_, rfl, _, _, true, rfl, .int i, isi_int_int K, true, rfl, ?_⟩
    refine iteT ?_
    exact ⟨_, rfl, _, _, false, rfl, .int i, isi_int_bool K, false, rfl, k⟩
def spBelow (K : PySem.W.Frag) : Sp := fun vs H Q _ => ∃ (i : Int) (n : Nat), vs = [.int i, .int n] ∧ Q (.bl (decide (inP i n))) H
theorem ok_is_below {f : Addr} {fd : FuncData} (F : Fun K "is_below" "is_below" s_is_below f fd) (F_is_whole : FnAt P w K mg base 1 "is_whole" ["value"] (spWh K)) : FnOk P w K mg base CX0 2 f fd ["value", "count"] (spBelow K) := by
  refine F.ok sc_is_below (fun vs H Q E h => ?_) (fun cdv A outer s H vs Q E hr h => ?_)
  · obtain ⟨i, n, rfl, _⟩ := h
    rfl
  · obtain ⟨i, n, rfl, k⟩ := h
    refine ⟨_, (pss_one (ps_ret (pe_and (pe_fn F_is_whole (hr.mono (by decide)) (by rfl) (pa_cons (pv 0) pa_nil)) (pe_one (pe_chain op_le op_lt pe_int (pv 0) (pv 1)))))), ?_⟩
    refine ⟨_, rfl, i, rfl, true, rfl, ?_⟩
    refine iteT ?_
    refine ⟨_, rfl, _, _, rfl, rfl, _, rfl, ?_⟩
    refine ite2 (fun h0 => ?_) (fun h0 => ?_)
    · refine ⟨_, rfl, _, _, rfl, rfl, ?_⟩
      have e : decide (inP i n) = decide (i < (n : Int)) := by
        have h0 := of_decide_eq_true h0
        rw [Bool.eq_iff_iff, decide_eq_true_iff, decide_eq_true_iff]
        exact ⟨fun z => z.2, fun z => ⟨h0, z⟩⟩
      show Q (.bl (decide (i < (n : Int)))) H
      rw [← e]
      exact k
    · have e : decide (inP i n) = false := decide_eq_false fun z => h0 (decide_eq_true z.1)
      rw [← e]
      exact k

/-! ### cuts -/
def spIsNote (K : PySem.W.Frag) : Sp := fun vs H Q _ => ∃ (t : Addr) (x : Nt), vs = [.ref t] ∧ H t = some (.tup (nV x)) ∧ ∀ H', Same H H' → Q (.bl (!decide (x.1 = x.2.2.1))) H'
theorem ok_is_note {f : Addr} {fd : FuncData} (F : Fun K "is_note" "is_note" s_is_note f fd) (F_is_whole : FnAt P w K mg base 1 "is_whole" ["value"] (spWh K)) (Bt : Blt mg) : FnOk P w K mg base CX0 2 f fd ["value"] (spIsNote K) := by
  refine F.ok sc_is_note (fun vs H Q E h => ?_) (fun cdv A outer s H vs Q E hr h => ?_)
  · obtain ⟨t, x, rfl, _⟩ := h
    rfl
  · obtain ⟨t, x, rfl, ht, k⟩ := h
    have hu64 := hr.units
    refine ⟨_, (pss_cons (ps_if (PW.pt (pw_or (pt_not (pt_val (pe_callB (call_isiK (K := K) (cv := .ty "tuple") (c := .type "tuple") rfl rfl) (by rfl) Bt.b_isinstance bt_isinstance (pa_cons (pv 0) (pa_cons (pe_bltn (v := .ty "tuple") (by rfl) Bt.b_tuple bt_tuple rfl) pa_nil))))) (pw_or1 (pt_cmpR op_ne (pe_callB (call_len_seqK (K := K) rfl) (by rfl) Bt.b_len bt_len (pa_cons (pv 0) pa_nil)) pe_int (nomark _))))) (pss_one (ps_ret pe_bl)) pss_nil)
      (pss_one (ps_ret (pe_and (pe_callB (call_all_boolsK (K := K) rfl rfl) (by rfl) Bt.b_all bt_all (pa_cons (pe_comp rfl (N := ["number"]) (own := ["number"]) (caps := []) (CompScope.of (by kernel_rfl)) (pi_tupK (K := K) rfl (pv 0)) (fun _ _ _ _ => (pg_name (i := 0) (show List.Nodup (["number"] : List Str) by decide +kernel) rfl (Or.inl rfl))) (fun _ _ _ _ => pts_nil) (fun _ _ _ _ => (pe_fn F_is_whole (hr.mono (by decide)) (by rfl) (pa_cons (pv 0) pa_nil)))) pa_nil)) (pe_one (pe_cmpR op_ne (pe_ix (ix_tupK (K := K) rfl) (pv 0) pe_int (fun _ _ => rfl)) (pe_ix (ix_tupK (K := K) rfl) (pv 0) pe_int (fun _ _ => rfl)) (nomark _))))))), ?_⟩
    refine ⟨_, rfl, _, _, true, rfl, .tup ht, isi_tuple_tuple K, true, rfl, ?_⟩
    refine iteF ?_
    refine ⟨_, rfl, t, _, rfl, .inr (SqT.of ht), rfl, _, rfl, ?_⟩
    refine iteNS (by rfl) ?_
    refine ⟨_, rfl, t, rfl, ⟨_, SqT.of ht⟩, fun D hD => ?_⟩
    refine comp_valT (K := K) (fun i => some (.bl true)) hD ht (by show 4 ≤ 100000; decide) (fun i v H2 G F hi s2 kG kF => ?_) (fun H2 s2 e2 => ?_)
    · obtain ⟨z, rfl⟩ : ∃ z, v = V.int z := by
        have hm := List.mem_of_getElem? hi
        simp only [nV, List.mem_cons, List.not_mem_nil, or_false] at hm
        rcases hm with rfl | rfl | rfl | rfl <;> exact ⟨_, rfl⟩
      exact ⟨_, rfl, z, rfl, kF _ H2 (Same.refl _) rfl⟩
    · refine ⟨D, [true, true, true, true], rfl, SqL.of e2, true, rfl, ?_⟩
      refine iteT ?_
      refine ⟨_, rfl, _, _, _, _, rfl, rfl, SqT.of (s2 _ _ ht), rfl, _, rfl, _, _, _, _, rfl, rfl, SqT.of (s2 _ _ ht), rfl, rfl, ?_⟩
      have e : (!decide (V.int x.1 = V.int x.2.2.1)) = (!decide (x.1 = x.2.2.1)) := by
        by_cases q : x.1 = x.2.2.1
        · simp [q]
        · simp [q]
      show Q (.bl (!decide (V.int x.1 = V.int x.2.2.1))) H2
      rw [e]
      exact k H2 s2
def spBetween (K : PySem.W.Frag) : Sp := fun vs H Q _ => ∃ (c t : Addr) (cs : List Int) (x : Nt), vs = [.ref c, .ref t] ∧ H c = some (.lst (cs.map V.int)) ∧ H t = some (.tup (nV x)) ∧ NtOk cs x ∧ CsOk cs ∧ ∀ H', Same H H' → Q (.bl true) H'
theorem ok_is_between {f : Addr} {fd : FuncData} (F : Fun K "is_between" "is_between" s_is_between f fd) (F_is_below : FnAt P w K mg base 2 "is_below" ["value", "count"] (spBelow K)) (F_is_note : FnAt P w K mg base 2 "is_note" ["value"] (spIsNote K)) (Bt : Blt mg) : FnOk P w K mg base CX0 3 f fd ["counts", "note"] (spBetween K) := by
  refine F.ok sc_is_between (fun vs H Q E h => ?_) (fun cdv A outer s H vs Q E hr h => ?_)
  · obtain ⟨c, t, cs, x, rfl, _⟩ := h
    rfl
  · obtain ⟨c, t, cs, x, rfl, hc, ht, ok, cok, k⟩ := h
    have hu64 := hr.units
    obtain ⟨⟨h0, h1⟩, ⟨k0, k1⟩, ⟨o0, o1⟩, ⟨m0, m1⟩, hne⟩ := id ok
    refine ⟨_, (pss_cons (ps_if (PW.pt (pw_or (pt_not (pt_val (pe_fn F_is_note (hr.mono (by decide)) (by rfl) (pa_cons (pv 1) pa_nil)))) (pw_or (pt_not (pt_val (pe_fn F_is_below (hr.mono (by decide)) (by rfl) (pa_cons (pe_ix (ix_tupK (K := K) rfl) (pv 1) pe_int (fun _ _ => rfl)) (pa_cons (pe_callB (call_len_seqK (K := K) rfl) (by rfl) Bt.b_len bt_len (pa_cons (pv 0) pa_nil)) pa_nil))))) (pw_or1 (pt_not (pt_val (pe_fn F_is_below (hr.mono (by decide)) (by rfl) (pa_cons (pe_ix (ix_tupK (K := K) rfl) (pv 1) pe_int (fun _ _ => rfl)) (pa_cons (pe_callB (call_len_seqK (K := K) rfl) (by rfl) Bt.b_len bt_len (pa_cons (pv 0) pa_nil)) pa_nil))))))))) (pss_one (ps_ret pe_bl)) pss_nil)
      (pss_one (ps_ret (pe_and (pe_fn F_is_below (hr.mono (by decide)) (by rfl) (pa_cons (pe_ix (ix_tupK (K := K) rfl) (pv 1) pe_int (fun _ _ => rfl)) (pa_cons (pe_ix (ix_listK (K := K) rfl) (pv 0) (pe_ix (ix_tupK (K := K) rfl) (pv 1) pe_int (fun _ _ => rfl)) (fun _ _ => rfl)) pa_nil))) (pe_one (pe_fn F_is_below (hr.mono (by decide)) (by rfl) (pa_cons (pe_ix (ix_tupK (K := K) rfl) (pv 1) pe_int (fun _ _ => rfl)) (pa_cons (pe_ix (ix_listK (K := K) rfl) (pv 0) (pe_ix (ix_tupK (K := K) rfl) (pv 1) pe_int (fun _ _ => rfl)) (fun _ _ => rfl)) pa_nil)))))))), ?_⟩
    refine ⟨_, rfl, t, x, rfl, ht, fun H1 s1 => ⟨_, rfl, ?_⟩⟩
    rw [show (!decide (x.1 = x.2.2.1)) = true by simp [hne]]
    refine iteF ?_
    have hc1 := s1 _ _ hc
    have ht1 := s1 _ _ ht
    refine ⟨_, rfl, _, _, _, _, rfl, rfl, SqT.of ht1, rfl, _, rfl, c, _, rfl, .inl (SqL.of hc1), _, _, rfl, _, rfl, ?_⟩
    rw [show decide (inP x.1 (cs.map V.int).length) = true by rw [List.length_map]; simp [inP, h0, h1]]
    refine iteF ?_
    refine ⟨_, rfl, _, _, _, _, rfl, rfl, SqT.of ht1, rfl, _, rfl, c, _, rfl, .inl (SqL.of hc1), _, _, rfl, _, rfl, ?_⟩
    rw [show decide (inP x.2.2.1 (cs.map V.int).length) = true by rw [List.length_map]; simp [inP, o0, o1]]
    refine iteF ?_
    have g1 := (cok.gI x.1).1
    have g2 := (cok.gI x.2.2.1).1
    have e1 : gI cs x.1 = ((gI cs x.1).toNat : Int) := by omega
    have e2 : gI cs x.2.2.1 = ((gI cs x.2.2.1).toNat : Int) := by omega
    refine ⟨_, rfl, _, _, _, _, rfl, rfl, SqT.of ht1, rfl, _, rfl, _, rfl, _, _, _, _, rfl, rfl, SqT.of ht1, rfl, _, _, _, _, rfl, rfl, SqL.of hc1, atI_gI h0 h1, x.2.1, (gI cs x.1).toNat, by rw [← e1]; rfl, _, rfl, ?_⟩
    rw [decide_eq_true (show inP x.2.1 (gI cs x.1).toNat from ⟨k0, by omega⟩)]
    refine iteT ?_
    refine ⟨_, rfl, _, _, _, _, rfl, rfl, SqT.of ht1, rfl, _, rfl, _, rfl, _, _, _, _, rfl, rfl, SqT.of ht1, rfl, _, _, _, _, rfl, rfl, SqL.of hc1, atI_gI o0 o1, x.2.2.2, (gI cs x.2.2.1).toNat, by rw [← e2]; rfl, ?_⟩
    rw [decide_eq_true (show inP x.2.2.2 (gI cs x.2.2.1).toNat from ⟨m0, by omega⟩)]
    exact k H1 s1
def spCheckN (K : PySem.W.Frag) : Sp := fun vs H Q _ => ∃ (t c a : Addr) (cs : List Int) (ns : List Nt), vs = [.ref t] ∧ RecAt H t c a cs ns ∧ RecOk cs ns ∧ ∀ H', Same H H' → Q .non H'
theorem fm_const (n : Nat) (v : V) : (List.range n).filterMap (fun _ => some v) = List.replicate n v := by
  induction n with
  | zero => rfl
  | succ n ih => rw [fm_succ, ih, List.replicate_succ']; rfl
theorem ok_check_notes {f : Addr} {fd : FuncData} (F : Fun K "check_notes" "check_notes" s_check_notes f fd) (F_is_between : FnAt P w K mg base 3 "is_between" ["counts", "note"] (spBetween K)) (Bt : Blt mg) : FnOk P w K mg base CX0 4 f fd ["record"] (spCheckN K) := by
  refine F.ok sc_check_notes (fun vs H Q E h => ?_) (fun cdv A outer s H vs Q E hr h => ?_)
  · obtain ⟨t, c, a, cs, ns, rfl, _⟩ := h
    rfl
  · obtain ⟨t, c, a, cs, ns, rfl, ⟨ht, hc, hN⟩, ok, k⟩ := h
    have hu64 := hr.units
    obtain ⟨vs, ha, dv⟩ := id hN
    have vl : vs.length = ns.length := by rw [dv.length, List.length_map]
    have nl := ok.2.1
    refine ⟨_, (pss_one (ps_if (pt_not (pt_val (pe_callB (call_all_boolsK (K := K) rfl rfl) (by rfl) Bt.b_all bt_all (pa_cons (pe_comp rfl (N := ["note", "record"]) (own := ["note"]) (caps := [0]) (CompScope.of (by kernel_rfl)) (pi_listK (K := K) rfl (pe_ix (ix_tupK (K := K) rfl) (pv 0) pe_int (fun _ _ => rfl))) (fun _ _ _ _ => (pg_name (i := 0) (show List.Nodup (["note", "record"] : List Str) by decide +kernel) rfl (Or.inl rfl))) (fun _ _ _ _ => pts_nil) (fun _ _ _ _ => (pe_fn F_is_between (hr.mono (by decide)) (by rfl) (pa_cons (pe_ix (ix_tupK (K := K) rfl) (pv 1) pe_int (fun _ _ => rfl)) (pa_cons (pv 0) pa_nil))))) pa_nil)))) (pss_one ps_never) pss_nil)), ?_⟩
    refine ⟨_, rfl, _, _, _, _, rfl, rfl, SqT.of ht, rfl, a, rfl, ⟨_, SqL.of ha⟩, fun D hD => ?_⟩
    refine comp_val (K := K) (fun i => some (.bl true)) hD (SqL.of ha) (by omega) (fun i v H2 G F hi s2 kG kF => ?_) (fun H2 s2 e2 => ?_)
    · obtain ⟨x, q, ex, rfl, hx⟩ := nts_get dv hi
      exact ⟨_, rfl, _, _, _, _, rfl, rfl, SqT.of (s2 _ _ ht), rfl, _, rfl, c, q, cs, x, rfl, s2 _ _ hc, s2 _ _ hx, ok.2.2 x (List.mem_of_getElem? ex), ok.1, fun H3 s3 => kF _ H3 s3 rfl⟩
    · rw [fm_const] at e2
      refine ⟨D, List.replicate vs.length true, rfl, SqL.of (by rw [e2, List.map_replicate]), _, rfl, ?_⟩
      rw [show (List.replicate vs.length true).all id = true by simp]
      refine iteF ?_
      exact k H2 s2
def DoneOk (cs ds : List Int) : Prop := ds.length = cs.length ∧ ∀ i : Int, 0 ≤ i → i < cs.length → 0 ≤ gI ds i ∧ gI ds i ≤ gI cs i

/-! ### copies, data of a record -/
theorem eqv_int (x y : Int) : PyData.eqv (.int x) (.int y) = decide (x = y) := by
  simp only [PyData.eqv]
  rw [Bool.eq_iff_iff]
  simp
theorem dat_ints {H : Hp} {a : Addr} {ns : List Int} (h : H a = some (.lst (ns.map V.int))) : Dat H (.ref a) (.list (ns.map PyData.int)) := dat_list h (Dats.ints ns)
theorem shaped_ints (ns : List Int) : SeqAt.shaped (.list (ns.map PyData.int)) = true := shaped_list PyData.int 0 (by decide) (fun _ _ => rfl) (fun _ _ => by show 0 ≤ 0; decide)
def rD (cs : List Int) (ns : List Nt) : PyData := .tuple [.list (cs.map PyData.int), .list (ns.map nD)]
theorem dat_rec {H : Hp} {t c a : Addr} {cs : List Int} {ns : List Nt} (h : RecAt H t c a cs ns) : Dat H (.ref t) (rD cs ns) := by
  obtain ⟨ht, hc, vs, ha, dv⟩ := h
  simp only [rD, Dat]
  refine ⟨t, _, rfl, ht, ?_⟩
  simp only [Dats, and_true]
  exact ⟨dat_ints hc, dat_list ha dv⟩
theorem shaped_rec (cs : List Int) (ns : List Nt) : SeqAt.shaped (rD cs ns) = true := by
  have e1 := shaped_ints cs
  have e2 := shaped_nts ns
  simp only [SeqAt.shaped, PyData.depth, PyData.depthAll, PyData.canLay0, PyData.canLayAll0, rD, Bool.and_eq_true, decide_eq_true_eq, Bool.and_true] at e1 e2 ⊢
  have d1 : PyData.depthAll (cs.map PyData.int) ≤ 0 := depthAll_map _ 0 cs (fun _ _ => by show 0 ≤ 0; decide)
  have d2 : PyData.depthAll (ns.map nD) ≤ 1 := depthAll_map _ 1 ns (fun _ _ => by show (max 0 (max 0 (max 0 (max 0 0)))) + 1 ≤ 1; decide)
  refine ⟨?_, ?_⟩ <;> first | (clear e2 e1; omega) | exact ⟨e1.1, e2.1⟩ | exact ⟨e1.2, e2.2⟩ | skip
theorem eqv_rec (cs ds : List Int) (ns ms : List Nt) : PyData.eqv (rD cs ns) (rD ds ms) = (decide (cs = ds) && decide (ns = ms)) := by
  simp only [rD, PyData.eqv, PyData.eqvAll, Bool.and_true]
  have e1 := eqv_list PyData.int eqv_int cs ds
  have e2 := eqv_list nD eqv_nD ns ms
  simp only [PyData.eqv] at e1 e2
  rw [e1, e2]

def spCopy (K : PySem.W.Frag) : Sp := fun vs H Q _ => ∃ (t c a : Addr) (cs : List Int) (ns : List Nt), vs = [.ref t] ∧ RecAt H t c a cs ns ∧ ∀ (t' c' a' : Addr) (H' : Hp), H t' = none → H c' = none → H a' = none → RecAt H' t' c' a' cs ns → Same H H' → Q (.ref t') H'
theorem ok_copy {f : Addr} {fd : FuncData} (F : Fun K "_law_copy" "_law_copy" s_Lcopy f fd) (Bt : Blt mg) : FnOk P w K mg base CX0 1 f fd ["record"] (spCopy K) := by
  refine F.ok sc_Lcopy (fun vs H Q E h => ?_) (fun cdv A outer s H vs Q E hr h => ?_)
  · obtain ⟨t, c, a, cs, ns, rfl, _⟩ := h
    rfl
  · obtain ⟨t, c, a, cs, ns, rfl, ⟨ht, hc, hN⟩, k⟩ := h
    obtain ⟨vs, ha, dv⟩ := id hN
    refine ⟨_, (pss_one (ps_ret (pe_tup (pa_cons (pe_callTy (call_list_ofK (K := K) rfl) (by rfl) Bt.b_list bt_list (pa_cons (pe_ix (ix_tupK (K := K) rfl) (pv 0) pe_int (fun _ _ => rfl)) pa_nil)) (pa_cons (pe_callTy (call_list_ofK (K := K) rfl) (by rfl) Bt.b_list bt_list (pa_cons (pe_ix (ix_tupK (K := K) rfl) (pv 0) pe_int (fun _ _ => rfl)) pa_nil)) pa_nil))))), ?_⟩
    refine ⟨_, rfl, _, _, _, _, rfl, rfl, SqT.of ht, rfl, c, _, rfl, .inl (SqL.of hc), fun c' hc' => ?_⟩
    have s1 := same_new (o := HO.lst (cs.map V.int)) hc'
    refine ⟨_, rfl, _, _, _, _, rfl, rfl, SqT.of (s1 _ _ ht), rfl, a, _, rfl, .inl (SqL.of (s1 _ _ ha)), fun a' ha' => ?_⟩
    have s2 := same_new (o := HO.lst vs) ha'
    refine ⟨(by show 2 ≤ sizeLine; decide), fun t' ht' => ?_⟩
    have s3 := same_new (o := HO.tup [V.ref c', V.ref a']) ht'
    have sA := (s1.trans s2).trans s3
    exact k t' c' a' _ ((s1.trans s2).free ht') hc' (s1.free ha') ⟨upd_same, s3 _ _ (s2 _ _ upd_same), ⟨vs, s3 _ _ upd_same, Dats.keep sA.tups _ (imms_map _ imm_nD ns) dv⟩⟩ sA

/-! ### pairs -/
abbrev Prs := Int × Int
def pD (x : Prs) : PyData := .tuple [.int x.1, .int x.2]
theorem imm_pD (x : Prs) : imm (pD x) = true := rfl
theorem dat_prs {H : Hp} {t : Addr} {x : Prs} (h : H t = some (.tup [.int x.1, .int x.2])) : Dat H (.ref t) (pD x) := by
  simp only [pD, Dat]
  exact ⟨t, _, rfl, h, by simp only [Dats, Dat, and_self]⟩
theorem dat_prs_inv {H : Hp} {v : V} {x : Prs} (h : Dat H v (pD x)) : ∃ t, v = .ref t ∧ H t = some (.tup [.int x.1, .int x.2]) := by
  simp only [pD, Dat] at h
  obtain ⟨t, vs, e, q, d⟩ := h
  match vs, d with
  | [a, b], d =>
    simp only [Dats, Dat, and_true] at d
    obtain ⟨rfl, rfl⟩ := d
    exact ⟨t, e, q⟩
  | [], d => simp only [Dats] at d
  | [_], d => simp only [Dats, and_false] at d
  | _ :: _ :: _ :: _, d => simp only [Dats, and_false] at d
def PrsAt (H : Hp) (a : Addr) (ps : List Prs) : Prop := ∃ vs, H a = some (.lst vs) ∧ Dats H vs (ps.map pD)
theorem PrsAt.same {H H' : Hp} {a : Addr} {ws : List Prs} (h : PrsAt H a ws) (k : Same H H') : PrsAt H' a ws := by
  obtain ⟨vs, e, d⟩ := h
  exact ⟨vs, k _ _ e, Dats.keep k.tups _ (imms_map _ imm_pD ws) d⟩
theorem prs_get {H : Hp} {vs : List V} {ps : List Prs} {i : Nat} {v : V} (d : Dats H vs (ps.map pD)) (e : vs[i]? = some v) : ∃ x t, ps[i]? = some x ∧ v = .ref t ∧ H t = some (.tup [.int x.1, .int x.2]) := by
  obtain ⟨q, eq, dq⟩ := d.get e
  rw [List.getElem?_map] at eq
  cases ex : ps[i]? with
  | none => rw [ex] at eq; cases eq
  | some x =>
    rw [ex] at eq
    cases eq
    obtain ⟨t, rfl, ht⟩ := dat_prs_inv dq
    exact ⟨x, t, rfl, rfl, ht⟩

/-! ### numbers done -/
theorem sum_le_of : ∀ {xs ys : List Int}, xs.length = ys.length → (∀ i : Nat, i < xs.length → gI xs (i : Int) ≤ gI ys (i : Int)) → xs.sum ≤ ys.sum
  | [], [], _, _ => by simp
  | [], _ :: _, h, _ => by simp at h
  | _ :: _, [], h, _ => by simp at h
  | x :: xs, y :: ys, h, q => by
    have q0 := q 0 (by simp)
    have ih := sum_le_of (xs := xs) (ys := ys) (by simpa using h) fun i hi => by
      have := q (i + 1) (by simp; omega)
      simpa [gI] using this
    simp [gI] at q0
    rw [List.sum_cons, List.sum_cons]
    omega
theorem DoneOk.sum {cs es : List Int} (h : DoneOk cs es) : 0 ≤ es.sum ∧ es.sum ≤ cs.sum := by
  constructor
  · have : (List.replicate es.length (0 : Int)).sum ≤ es.sum := sum_le_of (by simp) fun i hi => by
      have hi' : i < es.length := by simpa using hi
      have := (h.2 (i : Int) (by omega) (by rw [← h.1]; omega)).1
      simpa [gI, hi'] using this
    have z : (List.replicate es.length (0 : Int)).sum = 0 := by
      clear this h
      induction es.length with
      | zero => rfl
      | succ n ih => rw [List.replicate_succ, List.sum_cons, ih]; rfl
    omega
  · exact sum_le_of h.1 fun i hi => (h.2 (i : Int) (by omega) (by rw [← h.1]; omega)).2
/-! ### orders -/
def ft (x : Nt) : Prs := (x.1, x.2.1)
def firstsOf (ns : List Nt) (o m : Int) : List Prs := (ns.filter fun x => decide (x.2.2.1 = o) && decide (x.2.2.2 = m)).map ft
theorem firstsOf_snoc (ns : List Nt) (x : Nt) (o m : Int) : firstsOf (ns ++ [x]) o m = firstsOf ns o m ++ (if x.2.2.1 = o ∧ x.2.2.2 = m then [ft x] else []) := by
  unfold firstsOf
  rw [List.filter_append, List.map_append]
  congr 1
  by_cases e : x.2.2.1 = o ∧ x.2.2.2 = m
  · simp [e.1, e.2]
  · rw [if_neg e]
    by_cases e1 : x.2.2.1 = o
    · have e2 : ¬ x.2.2.2 = m := fun z => e ⟨e1, z⟩
      simp [e2]
    · simp [e1]
def FirstsAt (H : Hp) (f : Addr) (ns : List Nt) : Prop := ∃ kvs, H f = some (.dT kvs) ∧ ∀ o m : Int, (valV kvs [Sum.inl o, Sum.inl m] = none ∧ firstsOf ns o m = []) ∨ ∃ l, valV kvs [Sum.inl o, Sum.inl m] = some (.ref l) ∧ PrsAt H l (firstsOf ns o m)
theorem FirstsAt.same {H H' : Hp} {f : Addr} {ns : List Nt} (h : FirstsAt H f ns) (k : Same H H') : FirstsAt H' f ns := by
  obtain ⟨kvs, e, q⟩ := h
  refine ⟨kvs, k _ _ e, fun o m => ?_⟩
  rcases q o m with z | ⟨l, e1, e2⟩
  · exact .inl z
  · exact .inr ⟨l, e1, e2.same k⟩
def spFirsts (K : PySem.W.Frag) : Sp := fun vs H Q _ => ∃ (t c a : Addr) (cs : List Int) (ns : List Nt), vs = [.ref t] ∧ RecAt H t c a cs ns ∧ RecOk cs ns ∧ ∀ (f : Addr) (H' : Hp), H f = none → FirstsAt H' f ns → Same H H' → Q (.ref f) H'
theorem ok_firsts {f : Addr} {fd : FuncData} (F : Fun K "firsts_of" "firsts_of" s_firsts_of f fd) : FnOk P w K mg base CX0 1 f fd ["record"] (spFirsts K) := by
  refine F.ok sc_firsts_of (fun vs H Q E h => ?_) (fun cdv A outer s H vs Q E hr h => ?_)
  · obtain ⟨t, c, a, cs, ns, rfl, _⟩ := h
    rfl
  · obtain ⟨t, c, a, cs, ns, rfl, R, ok, k⟩ := h
    have hu := hu_of hr
    obtain ⟨ht, hc, nvs, ha, dn⟩ := id R
    have nvl : nvs.length = ns.length := by rw [dn.length, List.length_map]
    have nl := ok.2.1
    refine ⟨_, (pss_cons (ps_set (i := 1) sc_firsts_of.nd rfl (Or.inl rfl) pe_dnewT)
      (pss_cons (ps_for PassesOwn.never rfl (pi_listK (K := K) rfl (pe_ix (ix_tupK (K := K) rfl) (pv 0) pe_int (fun _ _ => rfl))) (pg_name (i := 2) sc_firsts_of.nd rfl (Or.inl rfl))
      (pss_one (ps_expr (pe_appendK (K := K) rfl (pe_dsetd hu (pv 1) (pe_slice (sl_tupK (K := K) rfl) (pv 2) (po_some pe_int) po_none) (pe_lst pa_nil) ⟨rfl, rfl, rfl, rfl⟩) (pa_cons (pe_slice (sl_tupK (K := K) rfl) (pv 2) po_none (po_some pe_int)) pa_nil)))))
      (pss_one (ps_ret (pv 1))))), ?_⟩
    intro f hf
    have s1 := same_new (o := HO.dT []) hf
    refine ⟨_, rfl, _, _, _, _, rfl, rfl, SqT.of (s1 _ _ ht), rfl, a, rfl, ⟨_, SqL.of (s1 _ _ ha)⟩, ?_⟩
    refine for_list (K := K) (a := a) (xs := nvs) (fun i σ H2 => ∃ (x : Option V) (kvs : List (List Key × V)), σ = [some (.ref t), some (.ref f), x] ∧ Same H H2 ∧ H2 f = some (.dT kvs) ∧ kvs.length ≤ i ∧
        (∀ o m : Int, (valV kvs [Sum.inl o, Sum.inl m] = none ∧ firstsOf (ns.take i) o m = []) ∨ ∃ l, valV kvs [Sum.inl o, Sum.inl m] = some (.ref l) ∧ PrsAt H2 l (firstsOf (ns.take i) o m) ∧ H l = none ∧ l ≠ f) ∧
        (∀ (o m o' m' : Int) l, valV kvs [Sum.inl o, Sum.inl m] = some (.ref l) → valV kvs [Sum.inl o', Sum.inl m'] = some (.ref l) → o = o' ∧ m = m'))
      ⟨none, [], rfl, s1, upd_same, Nat.zero_le _, fun o m => .inl ⟨rfl, rfl⟩, fun o m o' m' l h => by cases h⟩ (fun i σ H2 _ ⟨_, _, _, sm, _⟩ => SqL.of (sm _ _ ha)) ?_ ?_
    · rintro i v σ H2 hi ⟨x0, kvs, rfl, sm, hF, kl, hval, inj⟩
      obtain ⟨x, w, ex, rfl, hx⟩ := nts_get dn hi
      have il : i < nvs.length := (List.getElem?_eq_some_iff.mp hi).1
      have hx2 := sm _ _ hx
      have tk : ns.take (i + 1) = ns.take i ++ [x] := by rw [List.take_add_one, ex]; rfl
      -- firsts.setdefault(note[2:], [])
      refine drop_bm_cps (fun v H3 => ∃ l kvs3, v = .ref l ∧ Same H H3 ∧ (∀ a xs, H2 a = some (HO.tup xs) → H3 a = some (HO.tup xs)) ∧ H3 f = some (.dT kvs3) ∧ kvs3.length ≤ i + 1 ∧ valV kvs3 [Sum.inl x.2.2.1, Sum.inl x.2.2.2] = some (.ref l) ∧
          (∀ o m : Int, (valV kvs3 [Sum.inl o, Sum.inl m] = none ∧ firstsOf (ns.take i) o m = []) ∨ ∃ l, valV kvs3 [Sum.inl o, Sum.inl m] = some (.ref l) ∧ PrsAt H3 l (firstsOf (ns.take i) o m) ∧ H l = none ∧ l ≠ f) ∧
          (∀ (o m o' m' : Int) l, valV kvs3 [Sum.inl o, Sum.inl m] = some (.ref l) → valV kvs3 [Sum.inl o', Sum.inl m'] = some (.ref l) → o = o' ∧ m = m')) (fun Q' kQ => ?_) ?_
      · refine ⟨_, rfl, f, rfl, .inr ⟨_, .inl hF⟩, _, rfl, _, rfl, _, _, rfl, SqT.of hx2, part4b _ rfl, fun p1 hp1 => ?_⟩
        have c2 : cutV (nV x) (some 2) none = [.int x.2.2.1, .int x.2.2.2] := cut4b ..
        rw [c2]
        have sp1 := same_new (o := HO.tup [V.int x.2.2.1, V.int x.2.2.2]) hp1
        refine ⟨(by show 0 ≤ sizeLine; decide), fun e he => ?_⟩
        have sp2 := same_new (o := HO.lst []) he
        have s12 := sp1.trans sp2
        refine ⟨kvs, [Sum.inl x.2.2.1, Sum.inl x.2.2.2], p1, s12 _ _ hF, rfl, sp2 _ _ upd_same, by rw [sizeLine_eq]; omega, fun v hv => ?_, fun hn => ?_⟩
        · rcases hval x.2.2.1 x.2.2.2 with z | ⟨l, e1, e2, e3, e4⟩
          · rw [z.1] at hv; cases hv
          · rw [e1] at hv
            cases hv
            refine kQ _ _ ⟨l, kvs, rfl, sm.trans s12, s12.tups, s12 _ _ hF, by omega, e1, fun o m => ?_, inj⟩
            rcases hval o m with z | ⟨l', f1, f2, f3, f4⟩
            · exact .inl z
            · exact .inr ⟨l', f1, f2.same s12, f3, f4⟩
        · have kF : Kp f (upd (upd H2 p1 (.tup [V.int x.2.2.1, V.int x.2.2.2])) e (.lst [])) (upd (upd (upd H2 p1 (.tup [V.int x.2.2.1, V.int x.2.2.2])) e (.lst [])) f (.dT (putK kvs [Sum.inl x.2.2.1, Sum.inl x.2.2.2] (.ref e)))) := Kp.set
          have nef : e ≠ f := fun z => by rw [← z] at hF; rw [sp1 _ _ hF] at he; cases he
          have hFe : (upd (upd H2 p1 (.tup [V.int x.2.2.1, V.int x.2.2.2])) e (.lst [])) f = some (.dT kvs) := s12 _ _ hF
          have he2 : H2 e = none := sp1.free he
          have tF : ∀ a xs, (upd (upd H2 p1 (.tup [V.int x.2.2.1, V.int x.2.2.2])) e (.lst [])) a = some (HO.tup xs) → (upd (upd (upd H2 p1 (.tup [V.int x.2.2.1, V.int x.2.2.2])) e (.lst [])) f (.dT (putK kvs [Sum.inl x.2.2.1, Sum.inl x.2.2.2] (.ref e)))) a = some (HO.tup xs) := fun a xs h => kF _ _ h (ne_of h hFe (by intro z; cases z))
          have neq : ∀ o m : Int, ([Sum.inl o, Sum.inl m] : List Key) = [Sum.inl x.2.2.1, Sum.inl x.2.2.2] ↔ o = x.2.2.1 ∧ m = x.2.2.2 := fun o m => by
            constructor
            · intro z; injection z with z1 z2; injection z2 with z2 _; exact ⟨Sum.inl.inj z1, Sum.inl.inj z2⟩
            · rintro ⟨rfl, rfl⟩; rfl
          refine kQ _ _ ⟨e, _, rfl, fun b o eb => kF _ _ ((sm.trans s12) _ _ eb) (ne_of_none eb hf), fun a xs h => tF _ _ (s12.tups _ _ h), upd_same, ?_, by rw [valV_put, if_pos rfl], fun o m => ?_, fun o m o' m' l h1 h2 => ?_⟩
          · exact Nat.le_trans (length_putK ..) (by omega)
          · rw [valV_put]
            by_cases q : o = x.2.2.1 ∧ m = x.2.2.2
            · rw [if_pos ((neq o m).mpr q)]
              obtain ⟨rfl, rfl⟩ := q
              refine .inr ⟨e, rfl, ?_, sm.free he2, nef⟩
              rcases hval x.2.2.1 x.2.2.2 with z | ⟨l, e1, _⟩
              · rw [z.2]
                exact ⟨[], kF _ _ upd_same nef, by simp [Dats]⟩
              · rw [e1] at hn; cases hn
            · rw [if_neg fun z => q ((neq o m).mp z)]
              rcases hval o m with z | ⟨l', f1, f2, f3, f4⟩
              · exact .inl z
              · refine .inr ⟨l', f1, ?_, f3, f4⟩
                obtain ⟨ws, g1, g2⟩ := f2.same s12
                exact ⟨ws, kF _ _ g1 f4, Dats.keep tF _ (imms_map _ imm_pD _) g2⟩
          · rw [valV_put] at h1 h2
            have old : ∀ o m : Int, valV kvs [Sum.inl o, Sum.inl m] = some (V.ref e) → False := fun o m h => by
              rcases hval o m with z | ⟨l', f1, ⟨ws, g1, _⟩, f3, f4⟩
              · rw [z.1] at h; cases h
              · rw [f1] at h
                cases h
                rw [he2] at g1
                cases g1
            by_cases q : o = x.2.2.1 ∧ m = x.2.2.2
            · rw [if_pos ((neq o m).mpr q)] at h1
              cases h1
              by_cases q' : o' = x.2.2.1 ∧ m' = x.2.2.2
              · exact ⟨q.1.trans q'.1.symm, q.2.trans q'.2.symm⟩
              · rw [if_neg fun z => q' ((neq o' m').mp z)] at h2
                exact (old _ _ h2).elim
            · rw [if_neg fun z => q ((neq o m).mp z)] at h1
              by_cases q' : o' = x.2.2.1 ∧ m' = x.2.2.2
              · rw [if_pos ((neq o' m').mpr q')] at h2
                cases h2
                exact (old _ _ h1).elim
              · rw [if_neg fun z => q' ((neq o' m').mp z)] at h2
                exact inj _ _ _ _ _ h1 h2
      · rintro v H3 ⟨l, kvs3, rfl, sm3, tp3, hF3, kl3, hkey, hval3, inj3⟩
        obtain ⟨z0, PL, hl0, nlf⟩ : ∃ z0 : True, PrsAt H3 l (firstsOf (ns.take i) x.2.2.1 x.2.2.2) ∧ H l = none ∧ l ≠ f := by
          rcases hval3 x.2.2.1 x.2.2.2 with z | ⟨l', f1, f2, f3, f4⟩
          · rw [z.1] at hkey; cases hkey
          · rw [f1] at hkey
            cases hkey
            exact ⟨trivial, f2, f3, f4⟩
        obtain ⟨ws, hl3, dl3⟩ := id PL
        refine ⟨.inl ⟨rfl, _, SqL.of hl3⟩, _, rfl, _, rfl, _, _, rfl, SqT.of (tp3 _ _ hx2), part4a _ rfl, fun p2 hp2 => ?_⟩
        have c1 : cutV (nV x) none (some 2) = [.int x.1, .int x.2.1] := cut4a ..
        rw [c1]
        have sp := same_new (o := HO.tup [V.int x.1, V.int x.2.1]) hp2
        have wl : ws.length ≤ ns.length := by
          rw [dl3.length, List.length_map]
          unfold firstsOf
          rw [List.length_map]
          have a1 := List.length_filter_le (fun y : Nt => decide (y.2.2.1 = x.2.2.1) && decide (y.2.2.2 = x.2.2.2)) (ns.take i)
          have a2 : (ns.take i).length ≤ ns.length := by rw [List.length_take]; omega
          omega
        refine ⟨l, ws, _, rfl, rfl, sp _ _ hl3, by rw [sizeLine_eq]; omega, ?_⟩
        have kL : Kp l (upd H3 p2 (.tup [V.int x.1, V.int x.2.1])) (upd (upd H3 p2 (.tup [V.int x.1, V.int x.2.1])) l (.lst (ws ++ [V.ref p2]))) := Kp.set
        have tL := kL.tups (sp _ _ hl3)
        refine ⟨_, kvs3, rfl, fun b o eb => kL _ _ (sp _ _ (sm3 _ _ eb)) (ne_of_none eb hl0), kL _ _ (sp _ _ hF3) nlf.symm, kl3, fun o m => ?_, inj3⟩
        rw [tk, firstsOf_snoc]
        by_cases q : x.2.2.1 = o ∧ x.2.2.2 = m
        · obtain ⟨rfl, rfl⟩ := q
          rw [if_pos ⟨rfl, rfl⟩]
          refine .inr ⟨l, hkey, ⟨_, upd_same, ?_⟩, hl0, nlf⟩
          rw [List.map_append]
          exact Dats.append (Dats.keep (fun a xs h => tL _ _ (sp.tups _ _ h)) _ (imms_map _ imm_pD _) dl3) (dats1 (dat_prs (x := ft x) (tL _ _ upd_same)))
        · rw [if_neg q, List.append_nil]
          rcases hval3 o m with z | ⟨l', f1, f2, f3, f4⟩
          · exact .inl z
          · have nll : l' ≠ l := fun z => by
              subst z
              obtain ⟨e1, e2⟩ := inj3 _ _ _ _ _ f1 hkey
              exact q ⟨e1.symm, e2.symm⟩
            obtain ⟨us, g1, g2⟩ := f2
            exact .inr ⟨l', f1, ⟨us, kL _ _ (sp _ _ g1) nll, Dats.keep (fun a xs h => tL _ _ (sp.tups _ _ h)) _ (imms_map _ imm_pD _) g2⟩, f3, f4⟩
    · rintro σ H2 ⟨x0, kvs, rfl, sm, hF, kl, hval, inj⟩
      rw [nvl, List.take_length] at hval
      refine ⟨_, rfl, k f H2 hf ⟨kvs, hF, fun o m => ?_⟩ sm⟩
      rcases hval o m with z | ⟨l, f1, f2, _⟩
      · exact .inl z
      · exact .inr ⟨l, f1, f2⟩
/-- the hand has a touch left, and all that the notes have ahead of it is done -/
def isFree (cs : List Int) (ns : List Nt) (ds : List Int) (h : Int) : Bool := !decide (gI ds h = gI cs h) && (firstsOf ns h (gI ds h)).all fun q => decide (q.2 < gI ds q.1)
def DnAt (K : PySem.W.Frag) (H : Hp) (d : Addr) (ds : List Int) : Prop := SqL K H d (ds.map V.int) ∨ SqT K H d (ds.map V.int)
theorem DnAt.same {K : PySem.W.Frag} {H H' : Hp} {d : Addr} {ds : List Int} (h : DnAt K H d ds) (k : Same H H') : DnAt K H' d ds := by
  rcases h with h | h
  · exact .inl (k.seq h)
  · refine .inr ?_
    rcases h with (h | ⟨o, h⟩) | h
    · exact .inl (.inl (k _ _ h))
    · exact .inl (.inr ⟨o, k _ _ h⟩)
    · exact .inr h
theorem rIx_dn {K : PySem.W.Frag} {H : Hp} {d : Addr} {ds : List Int} {h : Int} {Q : VK} (D : DnAt K H d ds) (h0 : 0 ≤ h) (h1 : h < ds.length) (q : Q (.int (gI ds h)) H) : rIx K (.ref d) (.int h) H Q := by
  rcases D with D | D
  · exact .inl ⟨d, _, h, _, rfl, rfl, D, atI_gI h0 h1, q⟩
  · exact .inr (.inl ⟨d, _, h, _, rfl, rfl, D, atI_gI h0 h1, q⟩)
def spHas (K : PySem.W.Frag) : Sp := fun vs H Q _ => ∃ (d t : Addr) (ds : List Int) (h k : Int), vs = [.ref d, .ref t] ∧ DnAt K H d ds ∧ H t = some (.tup [.int h, .int k]) ∧ 0 ≤ h ∧ h < ds.length ∧ Q (.bl (decide (k < gI ds h))) H
theorem ok_has {f : Addr} {fd : FuncData} (F : Fun K "has" "has" s_has f fd) : FnOk P w K mg base CX0 1 f fd ["done", "touch"] (spHas K) := by
  refine F.ok sc_has (fun vs H Q E h => ?_) (fun cdv A outer s H vs Q E hr h => ?_)
  · obtain ⟨d, t, ds, h, k, rfl, _⟩ := h
    rfl
  · obtain ⟨d, t, ds, h, k, rfl, hd, ht, h0, h1, q⟩ := h
    refine ⟨_, (pss_one (ps_ret (pe_cmpR op_lt (pe_ix (ix_tupK (K := K) rfl) (pv 1) pe_int (fun _ _ => rfl)) (pe_ix (ix_seqK (K := K) rfl) (pv 0) (pe_ix (ix_tupK (K := K) rfl) (pv 1) pe_int (fun _ _ => rfl)) (fun _ _ => rfl)) (nomark _)))), ?_⟩
    exact ⟨_, rfl, _, _, _, _, rfl, rfl, SqT.of ht, rfl, _, rfl, _, rfl, _, _, _, _, rfl, rfl, SqT.of ht, rfl, rIx_dn hd h0 h1 ⟨_, _, rfl, rfl, q⟩⟩
def spFree (K : PySem.W.Frag) : Sp := fun vs H Q _ => ∃ (c f d : Addr) (cs ds : List Int) (ns : List Nt) (h : Int), vs = [.ref c, .ref f, .ref d, .int h] ∧ H c = some (.lst (cs.map V.int)) ∧ FirstsAt H f ns ∧ DnAt K H d ds ∧ RecOk cs ns ∧ ds.length = cs.length ∧ 0 ≤ h ∧ h < cs.length ∧ ∀ H', Same H H' → Q (.bl (isFree cs ns ds h)) H'
theorem ok_is_free {f : Addr} {fd : FuncData} (F : Fun K "is_free" "is_free" s_is_free f fd) (F_has : FnAt P w K mg base 1 "has" ["done", "touch"] (spHas K)) (Bt : Blt mg) : FnOk P w K mg base CX0 2 f fd ["counts", "firsts", "done", "hand"] (spFree K) := by
  refine F.ok sc_is_free (fun vs H Q E h => ?_) (fun cdv A outer s H vs Q E hr h => ?_)
  · obtain ⟨c, f, d, cs, ds, ns, h, rfl, _⟩ := h
    rfl
  · obtain ⟨c, f, d, cs, ds, ns, h, rfl, hc, FA, hd, ok, dl, h0, h1, k⟩ := h
    have hu := hu_of hr
    have hu64 := hr.units
    refine ⟨_, (pss_cons (ps_if (pt_cmpR op_eq (pe_ix (ix_seqK (K := K) rfl) (pv 2) (pv 3) (fun _ _ => rfl)) (pe_ix (ix_listK (K := K) rfl) (pv 0) (pv 3) (fun _ _ => rfl)) (nomark _)) (pss_one (ps_ret pe_bl)) pss_nil)
      (pss_one (ps_ret (pe_callB (call_all_boolsK (K := K) rfl rfl) (by rfl) Bt.b_all bt_all (pa_cons (pe_comp rfl (N := ["first", "done"]) (own := ["first"]) (caps := [2]) (CompScope.of (by kernel_rfl)) (pi_listK (K := K) rfl (pe_dget2 hu (pv 1) (pe_tup (pa_cons (pv 3) (pa_cons (pe_ix (ix_seqK (K := K) rfl) (pv 2) (pv 3) (fun _ _ => rfl)) pa_nil))) (pe_lst pa_nil) ⟨rfl, rfl, rfl, rfl⟩)) (fun _ _ _ _ => (pg_name (i := 0) (show List.Nodup (["first", "done"] : List Str) by decide +kernel) rfl (Or.inl rfl))) (fun _ _ _ _ => pts_nil) (fun _ _ _ _ => (pe_fn F_has (hr.mono (by decide)) (by rfl) (pa_cons (pv 1) (pa_cons (pv 0) pa_nil))))) pa_nil))))), ?_⟩
    refine ⟨_, rfl, _, rfl, rIx_dn hd h0 (by omega) ⟨_, rfl, _, rfl, _, _, _, _, rfl, rfl, SqL.of hc, atI_gI h0 h1, rfl, _, rfl, ?_⟩⟩
    by_cases e : gI ds h = gI cs h
    · rw [show decide (V.int (gI ds h) = V.int (gI cs h)) = true by simp [e]]
      refine iteT ?_
      have : isFree cs ns ds h = false := by simp [isFree, e]
      rw [← this]
      exact k H (Same.refl _)
    · rw [show decide (V.int (gI ds h) = V.int (gI cs h)) = false by simp [e]]
      refine iteF ?_
      obtain ⟨kvs, hF, hval⟩ := FA
      refine ⟨_, rfl, f, rfl, .inr ⟨_, .inl hF⟩, _, rfl, _, rfl, _, rfl, rIx_dn hd h0 (by omega) ⟨(by show 2 ≤ sizeLine; decide), fun t ht => ?_⟩⟩
      have s1 := same_new (o := HO.tup [V.int h, V.int (gI ds h)]) ht
      refine ⟨(by show 0 ≤ sizeLine; decide), fun el hel => ?_⟩
      have s2 := same_new (o := HO.lst []) hel
      have s12 := s1.trans s2
      refine ⟨_, DGet.t (k := [Sum.inl h, Sum.inl (gI ds h)]) (s12 _ _ hF) (s2 _ _ upd_same), ?_⟩
      obtain ⟨l, el', PL⟩ : ∃ l, (valV kvs [Sum.inl h, Sum.inl (gI ds h)]).getD (V.ref el) = .ref l ∧ PrsAt (upd (upd H t (.tup [V.int h, V.int (gI ds h)])) el (.lst [])) l (firstsOf ns h (gI ds h)) := by
        rcases hval h (gI ds h) with z | ⟨l, e1, e2⟩
        · exact ⟨el, by rw [z.1]; rfl, by rw [z.2]; exact ⟨[], upd_same, by simp [Dats]⟩⟩
        · exact ⟨l, by rw [e1]; rfl, e2.same s12⟩
      rw [el']
      obtain ⟨vs, hl, dv⟩ := id PL
      have vl : vs.length = (firstsOf ns h (gI ds h)).length := by rw [dv.length, List.length_map]
      have fl : (firstsOf ns h (gI ds h)).length ≤ ns.length := by unfold firstsOf; rw [List.length_map]; exact List.length_filter_le ..
      have nl := ok.2.1
      refine ⟨l, rfl, ⟨_, SqL.of hl⟩, fun D hD => ?_⟩
      refine comp_val (K := K) (fun i => ((firstsOf ns h (gI ds h))[i]?).map fun q => V.bl (decide (q.2 < gI ds q.1))) hD (SqL.of hl) (by omega) (fun i v H3 G F hi s3 kG kF => ?_) (fun H3 s3 e3 => ?_)
      · obtain ⟨q, u, eq, rfl, hq⟩ := prs_get dv hi
        have qm : ∃ x ∈ ns, q = ft x := by
          obtain ⟨x, hx, e⟩ := List.mem_map.mp (List.mem_of_getElem? eq)
          exact ⟨x, (List.mem_filter.mp hx).1, e.symm⟩
        obtain ⟨x, xm, rfl⟩ := qm
        obtain ⟨⟨a0, a1⟩, _⟩ := ok.2.2 x xm
        refine ⟨_, rfl, _, rfl, d, u, ds, x.1, x.2.1, rfl, (hd.same s12).same s3, s3 _ _ hq, a0, by omega, kF _ H3 (Same.refl _) ?_⟩
        rw [eq]; rfl
      · rw [vl, fm_some] at e3
        refine ⟨D, (firstsOf ns h (gI ds h)).map (fun q => decide (q.2 < gI ds q.1)), rfl, SqL.of (by rw [e3, List.map_map]; rfl), ?_⟩
        have : isFree cs ns ds h = ((firstsOf ns h (gI ds h)).map (fun q => decide (q.2 < gI ds q.1))).all id := by
          unfold isFree
          rw [List.all_map]
          simp [e]
        rw [← this]
        exact k H3 (s12.trans s3)

def freeH (cs : List Int) (ns : List Nt) (ds : List Int) : List Int := (List.range cs.length).filterMap fun (i : Nat) => if isFree cs ns ds (i : Int) then some (i : Int) else none
theorem freeH_map (cs : List Int) (ns : List Nt) (ds : List Int) : (List.range cs.length).filterMap (fun (i : Nat) => if isFree cs ns ds (i : Int) then some (V.int (0 + (i : Int))) else none) = (freeH cs ns ds).map V.int := by
  unfold freeH
  rw [List.map_filterMap]
  refine fm_congr _ trivial fun i _ => ?_
  by_cases q : isFree cs ns ds (i : Int) = true
  · rw [if_pos q, if_pos q]; simp
  · rw [if_neg q, if_neg q]; rfl
theorem mem_freeH {cs : List Int} {ns : List Nt} {ds : List Int} {h : Int} : h ∈ freeH cs ns ds ↔ 0 ≤ h ∧ h < cs.length ∧ isFree cs ns ds h = true := by
  unfold freeH
  rw [List.mem_filterMap]
  constructor
  · rintro ⟨i, hi, e⟩
    have hi' : i < cs.length := by simpa using hi
    by_cases q : isFree cs ns ds (i : Int) = true
    · rw [if_pos q] at e
      cases e
      exact ⟨by omega, by omega, q⟩
    · rw [if_neg q] at e
      cases e
  · rintro ⟨h0, h1, q⟩
    refine ⟨h.toNat, by simp; omega, ?_⟩
    rw [show ((h.toNat : Nat) : Int) = h by omega, if_pos q]
theorem freeH_len (cs : List Int) (ns : List Nt) (ds : List Int) : (freeH cs ns ds).length ≤ cs.length := fm_len _ _
def spFreeH (K : PySem.W.Frag) : Sp := fun vs H Q _ => ∃ (c f d : Addr) (cs ds : List Int) (ns : List Nt), vs = [.ref c, .ref f, .ref d] ∧ H c = some (.lst (cs.map V.int)) ∧ FirstsAt H f ns ∧ DnAt K H d ds ∧ RecOk cs ns ∧ ds.length = cs.length ∧ ∀ (p : Addr) (H' : Hp), H p = none → H' p = some (.lst ((freeH cs ns ds).map V.int)) → Same H H' → Q (.ref p) H'
theorem ok_free_hands {f : Addr} {fd : FuncData} (F : Fun K "free_hands" "free_hands" s_free_hands f fd) (F_is_free : FnAt P w K mg base 2 "is_free" ["counts", "firsts", "done", "hand"] (spFree K)) (Bt : Blt mg) : FnOk P w K mg base CX0 3 f fd ["counts", "firsts", "done"] (spFreeH K) := by
  refine F.ok sc_free_hands (fun vs H Q E h => ?_) (fun cdv A outer s H vs Q E hr h => ?_)
  · obtain ⟨c, f, d, cs, ds, ns, rfl, _⟩ := h
    rfl
  · obtain ⟨c, f, d, cs, ds, ns, rfl, hc, FA, hd, ok, dl, k⟩ := h
    have c8 := ok.1.1
    refine ⟨_, (pss_one (ps_ret (pe_comp rfl (N := ["hand", "counts", "firsts", "done"]) (own := ["hand"]) (caps := [0, 1, 2]) (CompScope.of (by kernel_rfl)) (pi_range1 (by rfl) Bt.b_range (pa_cons (pe_callB (call_len_seqK (K := K) rfl) (by rfl) Bt.b_len bt_len (pa_cons (pv 0) pa_nil)) pa_nil)) (fun _ _ _ _ => (pg_name (i := 0) (show List.Nodup (["hand", "counts", "firsts", "done"] : List Str) by decide +kernel) rfl (Or.inl rfl))) (fun _ _ _ _ => (pts_one (pt_val (pe_fn F_is_free (hr.mono (by decide)) (by rfl) (pa_cons (pv 1) (pa_cons (pv 2) (pa_cons (pv 3) (pa_cons (pv 0) pa_nil)))))))) (fun _ _ _ _ => (pv 0))))), ?_⟩
    refine ⟨_, rfl, c, _, rfl, .inl (SqL.of hc), _, rfl, by rw [List.length_map]; omega, by rw [List.length_map]; omega, fun D hD => ?_⟩
    have lnm : (((cs.map V.int).length : Nat) : Int).toNat = cs.length := by simp
    rw [lnm]
    refine comp_valR (fun (i : Nat) => if isFree cs ns ds (i : Int) then some (V.int (0 + (i : Int))) else none) hD (by omega) (fun j H3 G F hj s3 kG kF => ?_) (fun H3 s3 e3 => ?_)
    · refine ⟨_, rfl, _, rfl, _, rfl, _, rfl, c, f, d, cs, ds, ns, 0 + (j : Int), rfl, s3 _ _ hc, FA.same s3, hd.same s3, ok, dl, by omega, by omega, fun H4 s4 => ⟨_, rfl, ?_⟩⟩
      have ej : (0 + (j : Int)) = (j : Int) := by omega
      rw [ej]
      by_cases q : isFree cs ns ds (j : Int) = true
      · rw [q]
        refine iteT ⟨_, rfl, kF _ H4 s4 ?_⟩
        rw [if_pos q, ej]
      · have q' : isFree cs ns ds (j : Int) = false := by simpa using q
        rw [q']
        exact iteF (kG H4 s4 (if_neg q))
    · rw [freeH_map] at e3
      exact k D H3 hD e3 s3
def stp (ds : List Int) (h : Int) : List Int := ds.set h.toNat (gI ds h + 1)
def zs (cs : List Int) : List Int := List.replicate cs.length 0
theorem zs_map (n : Nat) : (List.range n).filterMap (fun _ => some (V.int 0)) = (List.replicate n (0 : Int)).map V.int := by rw [fm_const, List.map_replicate]
theorem isFree_lt {cs : List Int} {ns : List Nt} {ds : List Int} {h : Int} (d : DoneOk cs ds) (h0 : 0 ≤ h) (h1 : h < cs.length) (f : isFree cs ns ds h = true) : gI ds h < gI cs h := by
  unfold isFree at f
  simp only [Bool.and_eq_true, Bool.not_eq_true', decide_eq_false_iff_not] at f
  have := d.2 h h0 h1
  omega
theorem stp_ok {cs : List Int} {ns : List Nt} {ds : List Int} {h : Int} (d : DoneOk cs ds) (h0 : 0 ≤ h) (h1 : h < cs.length) (f : isFree cs ns ds h = true) : DoneOk cs (stp ds h) := by
  have lt := isFree_lt d h0 h1 f
  have := d.2 h h0 h1
  refine ⟨by simp [stp, d.1], fun i i0 i1 => ?_⟩
  unfold stp
  rw [gI_set h0 (by rw [d.1]; exact h1) i0]
  by_cases e : i = h
  · subst e; rw [if_pos rfl]; omega
  · rw [if_neg e]; exact d.2 i i0 i1
theorem stp_sum {cs ds : List Int} {h : Int} (d : DoneOk cs ds) (h0 : 0 ≤ h) (h1 : h < cs.length) : (stp ds h).sum = ds.sum + 1 := by
  have hl : h.toNat < ds.length := by rw [d.1]; omega
  have e : ds[h.toNat]? = some (gI ds h) := by simp [gI, hl]
  unfold stp
  rw [sum_set e]
  omega
theorem zs_ok {cs : List Int} (h : CsOk cs) : DoneOk cs (zs cs) := by
  refine ⟨by simp [zs], fun i i0 i1 => ?_⟩
  have : gI (zs cs) i = 0 := by unfold gI zs; rw [List.getElem?_replicate]; split <;> rfl
  rw [this]
  exact ⟨Int.le_refl _, (h.gI i).1⟩
theorem gI_zs (cs : List Int) (i : Int) : gI (zs cs) i = 0 := by unfold gI zs; rw [List.getElem?_replicate]; split <;> rfl

theorem le_full : ∀ (cs ds : List Int), ds.length = cs.length → (∀ (i : Nat) (c d : Int), cs[i]? = some c → ds[i]? = some d → d ≤ c) → cs.sum ≤ ds.sum → ds = cs
  | [], [], _, _, _ => rfl
  | [], _ :: _, h, _, _ => by simp at h
  | _ :: _, [], h, _, _ => by simp at h
  | c :: cs, d :: ds, hl, hp, hs => by
    have h0 : d ≤ c := hp 0 c d rfl rfl
    have tl : ∀ (i : Nat) (c d : Int), cs[i]? = some c → ds[i]? = some d → d ≤ c := fun i c d e1 e2 => hp (i + 1) c d (by simpa using e1) (by simpa using e2)
    have le : ∀ (cs ds : List Int), ds.length = cs.length → (∀ (i : Nat) (c d : Int), cs[i]? = some c → ds[i]? = some d → d ≤ c) → ds.sum ≤ cs.sum := fun cs => by
      induction cs with
      | nil => intro ds h _; rw [List.eq_nil_of_length_eq_zero h]; exact Int.le_refl _
      | cons c cs ih =>
        intro ds h p
        match ds, h with
        | d :: ds, h =>
          have := ih ds (by simpa using h) fun i c d e1 e2 => p (i + 1) c d (by simpa using e1) (by simpa using e2)
          have := p 0 c d rfl rfl
          rw [List.sum_cons, List.sum_cons]
          omega
    have l1 := le cs ds (by simpa using hl) tl
    rw [List.sum_cons, List.sum_cons] at hs
    have e : d = c := by omega
    rw [e, le_full cs ds (by simpa using hl) tl (by omega)]
theorem gI_some {l : List Int} {i : Nat} {c : Int} (h : l[i]? = some c) : gI l (i : Int) = c := by unfold gI; rw [Int.toNat_natCast, h]; rfl
theorem done_full {cs ds : List Int} (d : DoneOk cs ds) (h : cs.sum ≤ ds.sum) : ds = cs := le_full cs ds d.1 (fun i c e h1 h2 => by
  have il := (List.getElem?_eq_some_iff.mp h1).1
  have := (d.2 (i : Int) (by omega) (by omega)).2
  rw [gI_some h1, gI_some h2] at this
  exact this) h

theorem zs_sum (cs : List Int) : (zs cs).sum = 0 := by
  unfold zs
  generalize cs.length = n
  induction n with
  | zero => rfl
  | succ n ih => rw [List.replicate_succ, List.sum_cons, ih]; rfl
theorem rep_zs (n : Nat) : (List.replicate n [V.int 0]).flatten = (List.replicate n (0 : Int)).map V.int := by
  rw [List.map_replicate]
  induction n with
  | zero => rfl
  | succ n ih => rw [List.replicate_succ, List.flatten_cons, ih]; rfl

/-! ### how many orders: by the first turn -/
def cntW (cs : List Int) (ns : List Nt) : Nat → List Int → Nat
  | 0, ds => if ds = cs then 1 else 0
  | n + 1, ds => ((freeH cs ns ds).map fun h => cntW cs ns n (stp ds h)).sum
theorem gI_stp {cs ds : List Int} {h g : Int} (dl : ds.length = cs.length) (h0 : 0 ≤ h) (h1 : h < cs.length) (g0 : 0 ≤ g) : gI (stp ds h) g = gI ds g + (if g = h then 1 else 0) := by
  unfold stp
  rw [gI_set h0 (by omega) g0]
  by_cases e : g = h
  · subst e; rw [if_pos rfl, if_pos rfl]
  · rw [if_neg e, if_neg e]; omega
theorem free_iff {cs : List Int} {ns : List Nt} {ds : List Int} {h : Int} : isFree cs ns ds h = true ↔ gI ds h ≠ gI cs h ∧ ∀ x ∈ ns, x.2.2.1 = h → x.2.2.2 = gI ds h → x.2.1 < gI ds x.1 := by
  unfold isFree firstsOf
  rw [Bool.and_eq_true, Bool.not_eq_true', decide_eq_false_iff_not, List.all_eq_true]
  refine and_congr Iff.rfl ⟨fun k x hx e1 e2 => ?_, fun k q hq => ?_⟩
  · have := k (ft x) (List.mem_map.mpr ⟨x, List.mem_filter.mpr ⟨hx, by simp [e1, e2]⟩, rfl⟩)
    exact of_decide_eq_true this
  · obtain ⟨x, hx, rfl⟩ := List.mem_map.mp hq
    obtain ⟨hx, e⟩ := List.mem_filter.mp hx
    simp only [Bool.and_eq_true, decide_eq_true_eq] at e
    exact decide_eq_true (k x hx e.1 e.2)
/-! ### one note more, or the same turned about -/
/-! ### numbers of ways, by cuts -/
def encI (ds : List Int) : List Key := ds.map Sum.inl
def encK (l : List (List Int × Nat)) : List (List Key × V) := l.map fun p => (encI p.1, V.int (p.2 : Nat))
theorem encI_inj {a b : List Int} (h : encI a = encI b) : a = b := by
  induction a generalizing b with
  | nil => cases b with
    | nil => rfl
    | cons x b => cases h
  | cons x a ih => cases b with
    | nil => cases h
    | cons y b =>
      have h : Sum.inl x :: encI a = (Sum.inl y : Key) :: encI b := h
      injection h with h1 h2
      rw [Sum.inl.inj h1, ih h2]
theorem encI_kV (ds : List Int) : (encI ds).map kV = ds.map V.int := by unfold encI; rw [List.map_map]; rfl
def getP : List (List Int × Nat) → List Int → Nat
  | [], _ => 0
  | p :: l, k => if p.1 = k then p.2 else getP l k
def addP : List (List Int × Nat) → List Int → Nat → List (List Int × Nat)
  | [], k, v => [(k, v)]
  | p :: l, k, v => if p.1 = k then (p.1, p.2 + v) :: l else p :: addP l k v
theorem val_enc (k : List Int) : ∀ l : List (List Int × Nat), (valV (encK l) (encI k)).getD (.int 0) = .int (getP l k : Nat)
  | [] => rfl
  | p :: l => by
    have ih := val_enc k l
    unfold valV encK at ih ⊢
    rw [List.map_cons, List.find?_cons]
    by_cases e : p.1 = k
    · rw [decide_eq_true (show encI p.1 = encI k by rw [e])]
      show V.int (p.2 : Nat) = V.int ((if p.1 = k then p.2 else getP l k : Nat) : Int)
      rw [if_pos e]
    · rw [decide_eq_false (show ¬ encI p.1 = encI k from fun z => e (encI_inj z))]
      show _ = V.int ((if p.1 = k then p.2 else getP l k : Nat) : Int)
      rw [if_neg e]
      exact ih
theorem val_at {l : List (List Int × Nat)} (nd : (l.map (·.1)).Nodup) {i : Nat} {k : List Int} {v : Nat} (h : l[i]? = some (k, v)) : valV (encK l) (encI k) = some (.int (v : Nat)) := by
  induction l generalizing i with
  | nil => simp at h
  | cons p l ih =>
    rw [List.map_cons, List.nodup_cons] at nd
    unfold valV encK
    rw [List.map_cons, List.find?_cons]
    cases i with
    | zero =>
      cases h
      rw [decide_eq_true rfl]; rfl
    | succ i =>
      have h : l[i]? = some (k, v) := by simpa using h
      have ne : ¬ p.1 = k := fun z => nd.1 (by rw [z]; exact List.mem_map.mpr ⟨(k, v), List.mem_of_getElem? h, rfl⟩)
      rw [decide_eq_false (show ¬ encI p.1 = encI k from fun z => ne (encI_inj z))]
      exact ih nd.2 h
theorem get_not {l : List (List Int × Nat)} {k : List Int} (h : k ∉ l.map (·.1)) : getP l k = 0 := by
  induction l with
  | nil => rfl
  | cons p l ih =>
    rw [List.map_cons, List.mem_cons, not_or] at h
    show (if p.1 = k then p.2 else getP l k) = 0
    rw [if_neg fun z => h.1 z.symm]
    exact ih h.2
theorem put_enc {l : List (List Int × Nat)} (nd : (l.map (·.1)).Nodup) (k : List Int) (v : Nat) : putK (encK l) (encI k) (.int ((getP l k : Nat) + (v : Nat))) = encK (addP l k v) := by
  induction l with
  | nil =>
    show [(encI k, V.int (((0 : Nat) : Int) + (v : Nat)))] = [(encI k, V.int (v : Nat))]
    simp
  | cons p l ih =>
    rw [List.map_cons, List.nodup_cons] at nd
    have ih := ih nd.2
    by_cases e : p.1 = k
    · have e1 : addP (p :: l) k v = (p.1, p.2 + v) :: l := if_pos e
      have e2 : getP (p :: l) k = p.2 := if_pos e
      rw [e1, e2]
      unfold putK
      rw [if_pos (by
        unfold encK
        rw [List.map_cons, List.any_cons, decide_eq_true (show encI p.1 = encI k by rw [e])]; rfl)]
      unfold encK
      rw [List.map_cons, List.map_cons, List.map_cons]
      have a1 : (if encI p.1 = encI k then (encI p.1, V.int ((p.2 : Nat) + (v : Nat))) else (encI p.1, V.int (p.2 : Nat))) = (encI p.1, V.int ((p.2 + v : Nat) : Int)) := by
        rw [if_pos (by rw [e])]
        congr 2
      have a2 : (l.map fun p : List Int × Nat => (encI p.1, V.int (p.2 : Nat))).map (fun kv => if kv.1 = encI k then (kv.1, V.int ((p.2 : Nat) + (v : Nat))) else kv) = l.map fun p : List Int × Nat => (encI p.1, V.int (p.2 : Nat)) := by
        rw [List.map_map]
        refine List.map_congr_left fun q hq => ?_
        show (if encI q.1 = encI k then _ else _) = _
        rw [if_neg fun z => nd.1 (by rw [e, ← encI_inj z]; exact List.mem_map.mpr ⟨q, hq, rfl⟩)]
      rw [a2]
      exact congrArg (· :: _) a1
    · have e1 : addP (p :: l) k v = p :: addP l k v := if_neg e
      have e2 : getP (p :: l) k = getP l k := if_neg e
      have ne : ¬ encI p.1 = encI k := fun z => e (encI_inj z)
      rw [e1, e2]
      have : encK (p :: addP l k v) = (encI p.1, V.int (p.2 : Nat)) :: encK (addP l k v) := rfl
      rw [this, ← ih]
      have : encK (p :: l) = (encI p.1, V.int (p.2 : Nat)) :: encK l := rfl
      rw [this]
      unfold putK
      rw [List.any_cons, decide_eq_false ne, Bool.false_or]
      by_cases q : (encK l).any (fun kv => decide (kv.1 = encI k)) = true
      · rw [if_pos q, if_pos q, List.map_cons, if_neg ne]
      · rw [if_neg q, if_neg q]; rfl
def wsum (l : List (List Int × Nat)) (f : List Int → Nat) : Nat := (l.map fun p => p.2 * f p.1).sum
theorem wsum_add (f : List Int → Nat) (k : List Int) (v : Nat) : ∀ l : List (List Int × Nat), wsum (addP l k v) f = wsum l f + v * f k
  | [] => by show (([(k, v)] : List (List Int × Nat)).map fun p => p.2 * f p.1).sum = _; simp [wsum]
  | p :: l => by
    have c : ∀ (q : List Int × Nat) (m : List (List Int × Nat)), wsum (q :: m) f = q.2 * f q.1 + wsum m f := fun q m => by unfold wsum; rw [List.map_cons, List.sum_cons]
    by_cases e : p.1 = k
    · have e1 : addP (p :: l) k v = (p.1, p.2 + v) :: l := if_pos e
      rw [e1, c, c, ← e]
      show (p.2 + v) * f p.1 + wsum l f = _
      rw [Nat.add_mul]; omega
    · have e1 : addP (p :: l) k v = p :: addP l k v := if_neg e
      rw [e1, c, c, wsum_add f k v l]; omega
theorem add_keys (k : List Int) (v : Nat) : ∀ l : List (List Int × Nat), (addP l k v).map (·.1) = if k ∈ l.map (·.1) then l.map (·.1) else l.map (·.1) ++ [k]
  | [] => rfl
  | p :: l => by
    by_cases e : p.1 = k
    · have e1 : addP (p :: l) k v = (p.1, p.2 + v) :: l := if_pos e
      rw [e1, if_pos (by rw [List.map_cons, e]; simp)]; rfl
    · have e1 : addP (p :: l) k v = p :: addP l k v := if_neg e
      rw [e1, List.map_cons, add_keys k v l, List.map_cons]
      by_cases q : k ∈ l.map (·.1)
      · rw [if_pos q, if_pos (by simp [q])]
      · rw [if_neg q, if_neg (by rw [List.mem_cons, not_or]; exact ⟨fun z => e z.symm, q⟩)]; rfl
theorem add_nodup {l : List (List Int × Nat)} (nd : (l.map (·.1)).Nodup) (k : List Int) (v : Nat) : ((addP l k v).map (·.1)).Nodup := by
  rw [add_keys]
  split
  · exact nd
  · rename_i q
    refine List.nodup_append.mpr ⟨nd, by simp, fun a ha b hb e => ?_⟩
    have : b = k := by simpa using hb
    subst this
    subst e
    exact q ha
theorem add_mem {l : List (List Int × Nat)} {k : List Int} {v : Nat} {ds : List Int} (h : ds ∈ (addP l k v).map (·.1)) : ds = k ∨ ds ∈ l.map (·.1) := by
  rw [add_keys] at h
  split at h
  · exact .inr h
  · rcases List.mem_append.mp h with h | h
    · exact .inr h
    · exact .inl (by simpa using h)
/-! ### how many cuts there may be -/
theorem take_set {ds : List Int} {h : Nat} (hl : h < ds.length) (v : Int) : ds.take h ++ [v] ++ ds.drop (h + 1) = ds.set h v := by
  rw [List.set_eq_take_append_cons_drop, if_pos hl]
  simp
theorem part_to {n h : Nat} (l : h < n) : ¬ (HT.sIx n 0 none = 0 ∧ HT.sIx n n (some (h : Int)) = n) := fun z => by
  have := z.2
  rw [HT.sIx_nat] at this
  omega
theorem part_from {n h : Nat} (l : h < n) : ¬ (HT.sIx n 0 (some ((h + 1 : Nat) : Int)) = 0 ∧ HT.sIx n n none = n) := fun z => by
  have := z.1
  rw [HT.sIx_nat] at this
  omega
/-- what the loop of the ways keeps -/
structure LayW (cs : List Int) (ns : List Nt) (n : Nat) (lat ws : List (List Int × Nat)) : Prop where
  nl : (lat.map (·.1)).Nodup
  ld : ∀ ds ∈ lat.map (·.1), DoneOk cs ds ∧ ds.sum = n
  lw : (n : Int) ≤ cs.sum → wsum lat (cntW cs ns (cs.sum.toNat - n)) = cntW cs ns cs.sum.toNat (zs cs)
  nw : (ws.map (·.1)).Nodup
  wd : ∀ ds ∈ ws.map (·.1), DoneOk cs ds ∧ ds.sum < n
  en : (n : Int) = cs.sum + 1 → getP ws cs = cntW cs ns cs.sum.toNat (zs cs)
  le : (n : Int) ≤ cs.sum + 1
  st : ws = [] → ∃ y, lat = [y]
theorem lay0 {cs : List Int} {ns : List Nt} (ok : CsOk cs) : LayW cs ns 0 [(zs cs, 1)] [] := by
  have s0 : (zs cs).sum = 0 := zs_sum cs
  have s1 := (zs_ok ok).sum
  refine ⟨by simp, fun ds hd => ?_, fun _ => ?_, by simp, fun ds hd => (by cases hd), fun z => by omega, by omega, fun _ => ⟨_, rfl⟩⟩
  · have : ds = zs cs := by simpa using hd
    subst this
    exact ⟨zs_ok ok, by rw [s0]; rfl⟩
  · show ([(zs cs, 1)].map fun p : List Int × Nat => p.2 * _).sum = _
    simp
theorem lay_keys {cs : List Int} {ns : List Nt} {n : Nat} {lat ws : List (List Int × Nat)} (L : LayW cs ns n lat ws) : ((ws ++ lat).map (·.1)).Nodup ∧ ∀ ds ∈ (ws ++ lat).map (·.1), DoneOk cs ds := by
  rw [List.map_append]
  refine ⟨List.nodup_append.mpr ⟨L.nw, L.nl, fun a ha b hb e => ?_⟩, fun ds hd => ?_⟩
  · subst e
    have := (L.wd a ha).2
    have := (L.ld a hb).2
    omega
  · rcases List.mem_append.mp hd with hd | hd
    · exact (L.wd ds hd).1
    · exact (L.ld ds hd).1
theorem get_app {k : List Int} : ∀ {l m : List (List Int × Nat)}, k ∉ l.map (·.1) → getP (l ++ m) k = getP m k
  | [], m, _ => rfl
  | p :: l, m, h => by
    rw [List.map_cons, List.mem_cons, not_or] at h
    show (if p.1 = k then p.2 else getP (l ++ m) k) = _
    rw [if_neg fun z => h.1 z.symm]
    exact get_app h.2
theorem lay_next {cs : List Int} {ns : List Nt} {n : Nat} {lat ws fl : List (List Int × Nat)} (L : LayW cs ns n lat ws) (ne : lat ≠ []) (nf : (fl.map (·.1)).Nodup) (fd : ∀ ds ∈ fl.map (·.1), DoneOk cs ds ∧ ds.sum = (n + 1 : Nat))
    (fw : wsum fl (cntW cs ns (cs.sum.toNat - n - 1)) = wsum lat fun ds => ((freeH cs ns ds).map fun h => cntW cs ns (cs.sum.toNat - n - 1) (stp ds h)).sum) : LayW cs ns (n + 1) fl (ws ++ lat) ∧ (n : Int) ≤ cs.sum := by
  obtain ⟨p, hp⟩ : ∃ p, p ∈ lat := by
    cases lat with
    | nil => exact absurd rfl ne
    | cons p l => exact ⟨p, by simp⟩
  obtain ⟨pd, ps⟩ := L.ld p.1 (List.mem_map.mpr ⟨p, hp, rfl⟩)
  have nle : (n : Int) ≤ cs.sum := by rw [← ps]; exact pd.sum.2
  obtain ⟨k1, k2⟩ := lay_keys L
  refine ⟨⟨nf, fd, fun l1 => ?_, k1, fun ds hd => ⟨k2 ds hd, ?_⟩, fun e => ?_, by omega, fun z => ?_⟩, nle⟩
  · rw [show cs.sum.toNat - (n + 1) = cs.sum.toNat - n - 1 by omega, fw, ← L.lw nle]
    obtain ⟨m, hm⟩ : ∃ m, cs.sum.toNat - n = m + 1 := ⟨cs.sum.toNat - n - 1, by omega⟩
    rw [hm]
    rfl
  · rw [List.map_append] at hd
    rcases List.mem_append.mp hd with hd | hd
    · have := (L.wd ds hd).2; omega
    · have := (L.ld ds hd).2; omega
  · have en : (n : Int) = cs.sum := by omega
    have nin : cs ∉ ws.map (·.1) := fun z => by have := (L.wd cs z).2; omega
    rw [get_app nin, ← L.lw (by omega), show cs.sum.toNat - n = 0 by omega]
    have all : ∀ ds ∈ lat.map (·.1), ds = cs := fun ds hd => done_full (L.ld ds hd).1 (by rw [(L.ld ds hd).2]; omega)
    match lat, ne, L.nl, all with
    | [], ne, _, _ => exact absurd rfl ne
    | [q], _, _, all =>
      have e1 : q.1 = cs := all q.1 (by simp)
      show (if q.1 = cs then q.2 else 0) = ([q].map fun p : List Int × Nat => p.2 * if p.1 = cs then 1 else 0).sum
      simp [e1]
    | q :: q' :: l, _, nd, all =>
      have e1 := all q.1 (by simp)
      have e2 := all q'.1 (by simp)
      rw [List.map_cons, List.nodup_cons, List.map_cons] at nd
      exact absurd (by rw [e1, e2]; simp) nd.1
  · have h1 : (ws ++ lat).length = 0 := by rw [z]; rfl
    rw [List.length_append] at h1
    have : 0 < lat.length := List.length_pos_of_mem hp
    omega
theorem lay_end {cs : List Int} {ns : List Nt} {n : Nat} {ws : List (List Int × Nat)} (L : LayW cs ns n [] ws) : getP ws cs = cntW cs ns cs.sum.toNat (zs cs) := by
  by_cases e : (n : Int) = cs.sum + 1
  · exact L.en e
  · have le := L.le
    have nin : cs ∉ ws.map (·.1) := fun z => by have := (L.wd cs z).2; omega
    rw [get_not nin, ← L.lw (by omega)]
    rfl

/-! ### cuts that are come to -/
inductive Rch (cs : List Int) (ns : List Nt) : List Int → Prop
  | zero : Rch cs ns (zs cs)
  | step {ds : List Int} {h : Int} : Rch cs ns ds → h ∈ freeH cs ns ds → Rch cs ns (stp ds h)
theorem Rch.ok {cs : List Int} {ns : List Nt} (c : CsOk cs) {ds : List Int} (r : Rch cs ns ds) : DoneOk cs ds := by
  induction r with
  | zero => exact zs_ok c
  | step _ hf ih =>
    obtain ⟨h0, h1, fr⟩ := mem_freeH.mp hf
    exact stp_ok ih h0 h1 fr
theorem done_zero {cs ds : List Int} (d : DoneOk cs ds) (h : ds.sum = 0) : ds = zs cs := by
  refine (le_full ds (zs cs) (by rw [d.1]; simp [zs]) (fun i c e h1 h2 => ?_) (by rw [h, zs_sum]; exact Int.le_refl _)).symm
  have il := (List.getElem?_eq_some_iff.mp h1).1
  have := (d.2 (i : Int) (by omega) (by rw [← d.1]; omega)).1
  rw [gI_some h1] at this
  have e0 : e = 0 := by
    have := gI_some h2
    rw [gI_zs] at this
    exact this.symm
  omega
theorem Rch.back {cs : List Int} {ns : List Nt} (c : CsOk cs) {es : List Int} (r : Rch cs ns es) {n : Nat} (e : es.sum = (n + 1 : Nat)) : ∃ ds h, Rch cs ns ds ∧ ds.sum = n ∧ h ∈ freeH cs ns ds ∧ es = stp ds h := by
  cases r with
  | zero =>
    have := zs_sum cs
    omega
  | @step ds h r hf =>
    obtain ⟨h0, h1, fr⟩ := mem_freeH.mp hf
    have := stp_sum (r.ok c) h0 h1
    exact ⟨ds, h, r, by omega, hf, rfl⟩
theorem add_len (l : List (List Int × Nat)) (k : List Int) (v : Nat) : (addP l k v).length ≤ l.length + 1 := by
  have := congrArg List.length (add_keys k v l)
  rw [List.length_map] at this
  rw [this]
  split
  · rw [List.length_map]; omega
  · rw [List.length_append, List.length_map]; exact Nat.le_refl _
theorem add_mem_iff {l : List (List Int × Nat)} {k : List Int} {v : Nat} {ds : List Int} : ds ∈ (addP l k v).map (·.1) ↔ ds = k ∨ ds ∈ l.map (·.1) := by
  constructor
  · exact add_mem
  · intro h
    rw [add_keys]
    split
    · rename_i m
      rcases h with rfl | h
      · exact m
      · exact h
    · rw [List.mem_append]
      rcases h with rfl | h
      · exact .inr (by simp)
      · exact .inl h
/-- what the loop of the ways keeps -/
structure LayG (cs : List Int) (ns : List Nt) (n : Nat) (lat ws : List (List Int × Nat)) : Prop where
  ly : LayW cs ns n lat ws
  lr : ∀ ds, ds ∈ lat.map (·.1) ↔ Rch cs ns ds ∧ ds.sum = n
  wr : ∀ ds, ds ∈ ws.map (·.1) ↔ Rch cs ns ds ∧ ds.sum < n
theorem layG0 {cs : List Int} {ns : List Nt} (ok : CsOk cs) : LayG cs ns 0 [(zs cs, 1)] [] := by
  refine ⟨lay0 ok, fun ds => ?_, fun ds => ?_⟩
  · constructor
    · intro h
      have : ds = zs cs := by simpa using h
      subst this
      exact ⟨.zero, by rw [zs_sum]; rfl⟩
    · rintro ⟨r, e⟩
      have := done_zero (r.ok ok) (by rw [e]; rfl)
      simp [this]
  · constructor
    · intro h; cases h
    · rintro ⟨r, e⟩
      have := (r.ok ok).sum
      omega
theorem layG_next {cs : List Int} {ns : List Nt} (ok : CsOk cs) {n : Nat} {lat ws fl : List (List Int × Nat)} (L : LayG cs ns n lat ws) (ne : lat ≠ []) (nf : (fl.map (·.1)).Nodup) (fd : ∀ ds ∈ fl.map (·.1), DoneOk cs ds ∧ ds.sum = (n + 1 : Nat))
    (fw : wsum fl (cntW cs ns (cs.sum.toNat - n - 1)) = wsum lat fun ds => ((freeH cs ns ds).map fun h => cntW cs ns (cs.sum.toNat - n - 1) (stp ds h)).sum)
    (fr : ∀ d', d' ∈ fl.map (·.1) ↔ ∃ ds ∈ lat.map (·.1), ∃ h ∈ freeH cs ns ds, d' = stp ds h) : LayG cs ns (n + 1) fl (ws ++ lat) ∧ (n : Int) ≤ cs.sum := by
  obtain ⟨L1, nle⟩ := lay_next L.ly ne nf fd fw
  refine ⟨⟨L1, fun ds => ?_, fun ds => ?_⟩, nle⟩
  · rw [fr]
    constructor
    · rintro ⟨es, he, h, hh, rfl⟩
      obtain ⟨r, e⟩ := (L.lr es).mp he
      obtain ⟨h0, h1, _⟩ := mem_freeH.mp hh
      exact ⟨.step r hh, by rw [stp_sum (r.ok ok) h0 h1]; omega⟩
    · rintro ⟨r, e⟩
      obtain ⟨es, h, r', e', hh, rfl⟩ := r.back ok e
      exact ⟨es, (L.lr es).mpr ⟨r', e'⟩, h, hh, rfl⟩
  · rw [List.map_append, List.mem_append, L.wr, L.lr]
    constructor
    · rintro (⟨r, e⟩ | ⟨r, e⟩)
      · exact ⟨r, by omega⟩
      · exact ⟨r, by omega⟩
    · rintro ⟨r, e⟩
      by_cases q : ds.sum < n
      · exact .inl ⟨r, q⟩
      · exact .inr ⟨r, by omega⟩
theorem layG_end {cs : List Int} {ns : List Nt} (ok : CsOk cs) {n : Nat} {ws : List (List Int × Nat)} (L : LayG cs ns n [] ws) : (ws.map (·.1)).Nodup ∧ ∀ ds, ds ∈ ws.map (·.1) ↔ Rch cs ns ds := by
  refine ⟨L.ly.nw, fun ds => ?_⟩
  rw [L.wr]
  refine ⟨fun h => h.1, fun r => ⟨r, ?_⟩⟩
  -- none of the sum n, none beyond
  have none : ∀ (m : Nat) (es : List Int), Rch cs ns es → es.sum = (n + m : Nat) → False := fun m => by
    induction m with
    | zero =>
      intro es r e
      have := (L.lr es).mpr ⟨r, e⟩
      cases this
    | succ m ih =>
      intro es r e
      obtain ⟨fs, h, r', e', _⟩ := r.back ok (n := n + m) e
      exact ih fs r' e'
  have p := (r.ok ok).sum
  by_cases q : ds.sum < n
  · exact q
  · exact (none (ds.sum.toNat - n) ds r (by omega)).elim

def spWaysG (CT : Addr) (K : PySem.W.Frag) : Sp := fun vs H Q E => ∃ (t c a : Addr) (cs : List Int) (ns : List Nt) (most : Int), vs = [.ref t, .int most] ∧ RecAt H t c a cs ns ∧ RecOk cs ns ∧ 0 ≤ most ∧ most ≤ 5000 ∧ (∀ (ks : List (List Int)) (H' : Hp), ks.Nodup → (∀ ds ∈ ks, Rch cs ns ds) → most < ks.length → Same H H' → E (.ref CT) none H') ∧ ∀ (w : Addr) (l : List (List Int × Nat)) (H' : Hp), H' w = some (.dT (encK l)) → getP l cs = cntW cs ns cs.sum.toNat (zs cs) → (l.map (·.1)).Nodup → (∀ ds, ds ∈ l.map (·.1) ↔ Rch cs ns ds) → (l.length : Int) ≤ most → Same H H' → Q (.ref w) H'
theorem ok_waysG {f : Addr} {fd : FuncData} (F : Fun K "ways_to_cuts" "ways_to_cuts" s_ways_to_cuts f fd) (F_firsts_of : FnAt P w K mg base 1 "firsts_of" ["record"] (spFirsts K)) (F_free_hands : FnAt P w K mg base 3 "free_hands" ["counts", "firsts", "done"] (spFreeH K)) (Bt : Blt mg) {C_TooMany : Addr} (X_TooMany : Xr K mg C_TooMany "TooMany") : FnOk P w K mg base (CX1 P w) 4 f fd ["record", "most"] (spWaysG C_TooMany K) := by
  refine F.okX sc_ways_to_cuts (fun vs H Q E h => ?_) (fun cdv A outer s H vs Q E hr h hR => ?_)
  · obtain ⟨t, c, a, cs, ns, most, rfl, _⟩ := h
    rfl
  · obtain ⟨t, c, a, cs, ns, most, rfl, R, ok, m0, m5, kE, k⟩ := h
    have hu := hu_of hr
    have hu64 := hr.units
    have c8 := ok.1.1
    refine ⟨_, (pss_cons (ps_set (i := 2) sc_ways_to_cuts.nd rfl (Or.inl rfl) (pe_fn F_firsts_of (hr.mono (by decide)) (by rfl) (pa_cons (pv 0) pa_nil)))
      (pss_cons (ps_set (i := 3) sc_ways_to_cuts.nd rfl (Or.inl rfl) pe_dnewT)
      (pss_cons (ps_set (i := 4) sc_ways_to_cuts.nd rfl (Or.inl rfl) (pe_disp1 (Nat.lt_of_succ_lt hu) (pe_callTy call_tuple_of (by rfl) Bt.b_tuple bt_tuple (pa_cons (pe_comp rfl (N := ["count"]) (own := ["count"]) (caps := []) (CompScope.of (by kernel_rfl)) (pi_listK (K := K) rfl (pe_ix (ix_tupK (K := K) rfl) (pv 0) pe_int (fun _ _ => rfl))) (fun _ _ _ _ => (pg_name (i := 0) (show List.Nodup (["count"] : List Str) by decide +kernel) rfl (Or.inl rfl))) (fun _ _ _ _ => pts_nil) (fun _ _ _ _ => pe_int)) pa_nil)) pe_int))
      (pss_cons (ps_while PassesOwn.leaving (pt_truT (pv 4)) (pss_cons (ps_expr (pe_bmK (K := K) rfl PySem.F.plainAttrs_dict PySem.F.slot_dict_update PySem.F.type_dict_update (mt_updT hu) (pv 3) (pa_cons (pv 4) pa_nil)))
      (pss_cons (ps_if (pt_cmpR op_gt (pe_callB call_lenT (by rfl) Bt.b_len bt_len (pa_cons (pv 3) pa_nil)) (pv 1) (nomark _)) (pss_one (ps_raise PySem.F.excBase_ValueError X_TooMany.ex X_TooMany.bd (by rfl) rfl rfl hR (pa_cons pe_str pa_nil))) pss_nil)
      (pss_cons (ps_set (i := 5) sc_ways_to_cuts.nd rfl (Or.inl rfl) pe_dnewT)
      (pss_cons (ps_thawT (ps_for PassesOwn.leaving rfl (pi_dictT (pv 4)) (pg_name (i := 6) sc_ways_to_cuts.nd rfl (Or.inl rfl))
      (pss_one (ps_for PassesOwn.leaving rfl (pi_listK (K := K) rfl (pe_fn F_free_hands (hr.mono (by decide)) (by rfl) (pa_cons (pe_ix (ix_tupK (K := K) rfl) (pv 0) pe_int (fun _ _ => rfl)) (pa_cons (pv 2) (pa_cons (pv 6) pa_nil))))) (pg_name (i := 7) sc_ways_to_cuts.nd rfl (Or.inl rfl))
      (pss_cons (ps_set (i := 8) sc_ways_to_cuts.nd rfl (Or.inl rfl) (pe_op (op_catA (K := K) rfl) (pe_op (op_catA (K := K) rfl) (pe_slice (sl_tupK (K := K) rfl) (pv 6) po_none (po_some (pv 7))) (pe_tup (pa_cons (pe_op op_add (pe_ix (ix_tupK (K := K) rfl) (pv 6) (pv 7) (fun _ _ => rfl)) pe_int) pa_nil))) (pe_slice (sl_tupK (K := K) rfl) (pv 6) (po_some (pe_op op_add (pv 7) pe_int)) po_none)))
      (pss_one (ps_dput hu (pv 5) (pv 8) (pe_op op_add (pe_dget2 hu (pv 5) (pv 8) pe_int ⟨rfl, rfl, rfl, rfl⟩) (pe_dget hu (pv 4) (pv 6) (fun _ _ => rfl))) rfl)))))))
      (pss_one (ps_set (i := 4) sc_ways_to_cuts.nd rfl (Or.inl rfl) (pv 5))))))))
      (pss_one (ps_ret (pv 3))))))), ?_⟩
    refine ⟨_, rfl, t, c, a, cs, ns, rfl, R, ok, fun f H1 hf FA s1 => ?_⟩
    intro w hw
    have s2 := same_new (o := HO.dT []) hw
    intro l hl
    have s3 := same_new (o := HO.dT []) hl
    have S3 := (s1.trans s2).trans s3
    have R3 := R.same S3
    have nwl : w ≠ l := ne_of_none upd_same hl
    have hl2 : (upd (upd H1 w (.dT [])) l (.dT [])) l = some (.dT []) := upd_same
    have hw2 := s3 _ _ (upd_same (H := H1) (a := w) (o := HO.dT []))
    have hl1 : H1 l = none := s2.free hl
    refine ⟨_, rfl, _, _, _, _, rfl, rfl, SqT.of R3.1, rfl, c, rfl, ⟨_, SqL.of R3.2.1⟩, fun p hp => ?_⟩
    refine comp_val (K := K) (fun i => some (.int 0)) hp (SqL.of R3.2.1) (by rw [List.length_map]; omega) (fun i v H4 G F hi s4 kG kF => kF _ H4 (Same.refl _) rfl) (fun H4 s4 e4 => ?_)
    rw [List.length_map, zs_map] at e4
    refine ⟨p, _, rfl, .inl ⟨SqL.of e4, fun q hq => ?_⟩⟩
    have s5 := same_new (o := HO.tup ((List.replicate cs.length (0 : Int)).map V.int)) hq
    have s45 := s4.trans s5
    refine ⟨q, encI (zs cs), rfl, by rw [upd_same, encI_kV]; rfl, s45 _ _ hl2, ?_⟩
    have base : ∀ (H6 : Hp) (o : HO), Same (upd (upd H1 w (.dT [])) l (.dT [])) H6 → Same H1 (upd H6 l o) := fun H6 o s b u e => by
      rw [upd_ne (ne_of_none e hl1)]
      exact s _ _ ((s2.trans s3) _ _ e)
    have S6 := base _ (.dT [(encI (zs cs), V.int 1)]) s45
    have hw6 : (upd (upd H4 q (.tup ((List.replicate cs.length (0 : Int)).map V.int))) l (.dT [(encI (zs cs), V.int 1)])) w = some (.dT (encK [])) := by rw [upd_ne nwl]; exact s45 _ _ hw2
    have hl6 : (upd (upd H4 q (.tup ((List.replicate cs.length (0 : Int)).map V.int))) l (.dT [(encI (zs cs), V.int 1)])) l = some (.dT (encK [(zs cs, 1)])) := upd_same
    generalize (upd (upd H4 q (.tup ((List.replicate cs.length (0 : Int)).map V.int))) l (.dT [(encI (zs cs), V.int 1)])) = H6 at S6 hw6 hl6 ⊢
    clear s45 s5 s4 hq e4 hp base hl2 hw2 s3 S3 R3 hl
    have hw1 : H1 w = none := hw
    have c1 := s1 _ _ R.2.1
    have R1 := R.same s1
    refine ⟨fun m σ H7 => ∃ (n : Nat) (lat ws : List (List Int × Nat)) (l : Addr) (x1 x2 x3 x4 : Option V), σ = [some (.ref t), some (.int most), some (.ref f), some (.ref w), some (.ref l), x1, x2, x3, x4] ∧ H7 w = some (.dT (encK ws)) ∧ H7 l = some (.dT (encK lat)) ∧ w ≠ l ∧ H1 l = none ∧ Same H1 H7 ∧ LayG cs ns n lat ws ∧ (ws.length : Int) ≤ most ∧ lat.length ≤ 40000 ∧ m = (cs.sum + 1 - n).toNat,
      ⟨_, 0, [(zs cs, 1)], [], l, none, none, none, none, rfl, hw6, hl6, nwl, hl1, S6, layG0 ok.1, by simpa using m0, by simp, rfl⟩, ?_⟩
    rintro m σ H7 ⟨n, lat, ws, l, x1, x2, x3, x4, rfl, hw7, hl7, nwl, hl1, S7, LG, wle, lle, rfl⟩
    have LA := LG.ly
    refine ⟨_, rfl, l, _, rfl, hl7, ?_⟩
    by_cases en : lat = []
    · subst en
      refine iteF ?_
      exact ⟨_, rfl, k w ws H7 hw7 (lay_end LA) (layG_end ok.1 LG).1 (layG_end ok.1 LG).2 wle (s1.trans S7)⟩
    have ee : (!(encK lat).isEmpty) = true := by cases lat with | nil => exact absurd rfl en | cons p q => rfl
    rw [ee]
    refine iteT ?_
    refine ⟨fun σ' H' => ∃ m', m' < (cs.sum + 1 - n).toNat ∧ ∃ (n : Nat) (lat ws : List (List Int × Nat)) (l : Addr) (x1 x2 x3 x4 : Option V), σ' = [some (.ref t), some (.int most), some (.ref f), some (.ref w), some (.ref l), x1, x2, x3, x4] ∧ H' w = some (.dT (encK ws)) ∧ H' l = some (.dT (encK lat)) ∧ w ≠ l ∧ H1 l = none ∧ Same H1 H' ∧ LayG cs ns n lat ws ∧ (ws.length : Int) ≤ most ∧ lat.length ≤ 40000 ∧ m' = (cs.sum + 1 - n).toNat, fun σ' H' h => h, ?_⟩
    obtain ⟨kn, kd⟩ := lay_keys LA
    have eapp : encK ws ++ encK lat = encK (ws ++ lat) := by unfold encK; rw [List.map_append]
    have ekeys : (encK ws ++ encK lat).map (·.1) = ((ws ++ lat).map (·.1)).map encI := by rw [eapp]; unfold encK; rw [List.map_map, List.map_map]; rfl
    refine ⟨_, rfl, .inr (.inr (.inl ⟨rfl, .inr ⟨_, hw7⟩⟩)), _, rfl, w, l, encK ws, encK lat, rfl, rfl, hw7, hl7, ?_, ?_, ?_, ?_⟩
    · rw [ekeys]
      exact List.pairwise_map.mpr (List.Pairwise.imp (fun {a b} ne e => ne (encI_inj e)) kn)
    · intro z
      have : ws = [] := by cases ws with | nil => rfl | cons p q => cases z
      obtain ⟨y, rfl⟩ := LA.st this
      exact ⟨_, rfl⟩
    · rw [← List.length_append, eapp]
      unfold encK
      rw [List.length_map, sizeLine_eq, List.length_append]; omega
    rw [eapp]
    have kw : Kp w H7 (upd H7 w (.dT (encK (ws ++ lat)))) := Kp.set
    have S8 : Same H1 (upd H7 w (.dT (encK (ws ++ lat)))) := fun b u e => kw _ _ (S7 _ _ e) (ne_of_none e hw1)
    have hl8 := kw _ _ hl7 nwl.symm
    have hw8 : (upd H7 w (.dT (encK (ws ++ lat)))) w = some (.dT (encK (ws ++ lat))) := upd_same
    generalize upd H7 w (.dT (encK (ws ++ lat))) = H8 at S8 hl8 hw8 ⊢
    refine ⟨_, rfl, w, _, rfl, hw8, _, rfl, _, _, rfl, rfl, _, rfl, ?_⟩
    have kl9 : (encK (ws ++ lat)).length = (ws ++ lat).length := by unfold encK; rw [List.length_map]
    by_cases big : (((ws ++ lat).length : Nat) : Int) > most
    · rw [decide_eq_true (show (((encK (ws ++ lat)).length : Nat) : Int) > most by rw [kl9]; exact big)]
      refine iteT ?_
      refine ⟨(by show 1 ≤ sizeLine; decide), kE ((ws ++ lat).map (·.1)) _ kn (fun ds hd => ?_) (by rw [List.length_map]; exact big) (s1.trans S8)⟩
      rw [List.map_append] at hd
      rcases List.mem_append.mp hd with hd | hd
      · exact ((LG.wr ds).mp hd).1
      · exact ((LG.lr ds).mp hd).1
    rw [decide_eq_false (show ¬ (((encK (ws ++ lat)).length : Nat) : Int) > most by rw [kl9]; exact big)]
    refine iteF ?_
    have lat5 : lat.length ≤ 5000 := by rw [List.length_append] at big; omega
    dsimp only [tNext]
    intro g hg
    have s9 := same_new (o := HO.dT []) hg
    have S9 := S8.trans s9
    have hl9 := s9 _ _ hl8
    have hw9 := s9 _ _ hw8
    have hg9 : (upd H8 g (.dT [])) g = some (.dT (encK [])) := upd_same
    have hg1 : H1 g = none := S8.free hg
    have ngl : g ≠ l := (ne_of_none hl8 hg).symm
    have ngw : g ≠ w := (ne_of_none hw8 hg).symm
    generalize upd H8 g (.dT []) = H9 at S9 hl9 hw9 hg9 ⊢
    refine ⟨_, rfl, l, _, rfl, hl9, fun ob => ?_⟩
    have kl : Kp l H9 (upd H9 l (.frz ob (.dT (encK lat)))) := Kp.set
    have kfz : ∀ b u, H1 b = some u → (upd H9 l (.frz ob (.dT (encK lat)))) b = some u := fun b u e => kl _ _ (S9 _ _ e) (ne_of_none e hl1)
    refine for_dT (fun i σ H10 => ∃ (fl : List (List Int × Nat)) (x2 x3 x4 : Option V), σ = [some (.ref t), some (.int most), some (.ref f), some (.ref w), some (.ref l), some (.ref g), x2, x3, x4] ∧ Same H1 H10 ∧ H10 w = some (.dT (encK (ws ++ lat))) ∧ H10 g = some (.dT (encK fl)) ∧ H10 l = some (.frz ob (.dT (encK lat))) ∧ (fl.map (·.1)).Nodup ∧ (∀ ds ∈ fl.map (·.1), DoneOk cs ds ∧ ds.sum = (n + 1 : Nat)) ∧
        (wsum fl (cntW cs ns (cs.sum.toNat - n - 1)) = wsum (lat.take i) fun ds => ((freeH cs ns ds).map fun h => cntW cs ns (cs.sum.toNat - n - 1) (stp ds h)).sum) ∧ (∀ d', d' ∈ fl.map (·.1) ↔ ∃ ds ∈ (lat.take i).map (·.1), ∃ h ∈ freeH cs ns ds, d' = stp ds h) ∧ fl.length ≤ 8 * i)
      ⟨[], _, _, _, rfl, kfz, kl _ _ hw9 nwl, kl _ _ hg9 ngl, upd_same, by simp, (fun ds hd => by cases hd), rfl, (fun d' => by simp), by simp⟩ (fun i σ H _ ⟨_, _, _, _, _, _, _, _, e, _⟩ => e) ?_ ?_
    · rintro i kk vv b σ H10 hi hb ⟨fl, x2, x3, x4, rfl, S10, hw10, hg10, hl10, nf, fd, fw, frk, fll⟩
      obtain ⟨ds, v, ei, rfl, rfl⟩ : ∃ (ds : List Int) (v : Nat), lat[i]? = some (ds, v) ∧ kk = encI ds ∧ vv = V.int (v : Nat) := by
        unfold encK at hi
        rw [List.getElem?_map] at hi
        cases e : lat[i]? with
        | none => rw [e] at hi; cases hi
        | some p => rw [e] at hi; cases hi; exact ⟨p.1, p.2, rfl, rfl, rfl⟩
      rw [encI_kV] at hb
      obtain ⟨dd, dsum⟩ := LA.ld ds (List.mem_map.mpr ⟨(ds, v), List.mem_of_getElem? ei, rfl⟩)
      have dl := dd.1
      have tk : lat.take (i + 1) = lat.take i ++ [(ds, v)] := by rw [List.take_add_one, ei]; rfl
      have R10 := R1.same S10
      refine ⟨_, rfl, _, _, _, _, rfl, rfl, SqT.of R10.1, rfl, _, rfl, _, rfl, c, f, b, cs, ds, ns, rfl, R10.2.1, FA.same S10, .inr (SqT.of hb), ok, dl, fun q H11 hq hq11 s11 => ?_⟩
      have fl8 := freeH_len cs ns ds
      refine ⟨q, rfl, ⟨_, SqL.of hq11⟩, ?_⟩
      refine for_list (K := K) (a := q) (xs := (freeH cs ns ds).map V.int) (fun j σ H12 => ∃ (fl : List (List Int × Nat)) (x3 x4 : Option V), σ = [some (.ref t), some (.int most), some (.ref f), some (.ref w), some (.ref l), some (.ref g), some (.ref b), x3, x4] ∧ Same H1 H12 ∧ H12 w = some (.dT (encK (ws ++ lat))) ∧ H12 g = some (.dT (encK fl)) ∧ H12 l = some (.frz ob (.dT (encK lat))) ∧ H12 q = some (.lst ((freeH cs ns ds).map V.int)) ∧ H12 b = some (.tup (ds.map V.int)) ∧ (fl.map (·.1)).Nodup ∧ (∀ ds ∈ fl.map (·.1), DoneOk cs ds ∧ ds.sum = (n + 1 : Nat)) ∧
          wsum fl (cntW cs ns (cs.sum.toNat - n - 1)) = (wsum (lat.take i) fun ds => ((freeH cs ns ds).map fun h => cntW cs ns (cs.sum.toNat - n - 1) (stp ds h)).sum) + v * (((freeH cs ns ds).take j).map fun h => cntW cs ns (cs.sum.toNat - n - 1) (stp ds h)).sum ∧
          (∀ d', d' ∈ fl.map (·.1) ↔ (∃ ds ∈ (lat.take i).map (·.1), ∃ h ∈ freeH cs ns ds, d' = stp ds h) ∨ ∃ h ∈ (freeH cs ns ds).take j, d' = stp ds h) ∧ fl.length ≤ 8 * i + j)
        ⟨fl, x3, x4, rfl, S10.trans s11, s11 _ _ hw10, s11 _ _ hg10, s11 _ _ hl10, hq11, s11 _ _ hb, nf, fd, by rw [fw]; simp, (fun d' => by rw [frk]; simp), by omega⟩ (fun j σ H12 _ ⟨_, _, _, _, _, _, _, _, e, _⟩ => SqL.of e) ?_ ?_
      · rintro j vv σ H12 hj ⟨fl, x3, x4, rfl, S12, hw12, hg12, hl12, hq12, hb12, nf, fd, fw, frk, fll⟩
        rw [List.getElem?_map] at hj
        cases ej : (freeH cs ns ds)[j]? with
        | none => rw [ej] at hj; cases hj
        | some h =>
          rw [ej] at hj
          cases hj
          obtain ⟨h0, h1, fr⟩ := mem_freeH.mp (List.mem_of_getElem? ej)
          obtain ⟨hn, rfl⟩ := Int.eq_ofNat_of_zero_le h0
          have hnl : hn < ds.length := by omega
          have tkj : (freeH cs ns ds).take (j + 1) = (freeH cs ns ds).take j ++ [(hn : Int)] := by rw [List.take_add_one, ej]; rfl
          -- longer
          refine ⟨_, rfl, _, rfl, _, rfl, _, _, rfl, SqT.of hb12, by rw [List.length_map]; exact part_to hnl, fun p1 hp1 => ?_⟩
          rw [cut_take]
          have u1 := same_new (o := HO.tup ((ds.map V.int).take hn)) hp1
          refine ⟨_, rfl, _, rfl, _, _, _, _, rfl, rfl, SqT.of (u1 _ _ hb12), atI_gI (by omega) (by omega), _, _, rfl, rfl, (by show 1 ≤ sizeLine; decide), fun p2 hp2 => ?_⟩
          have u2 := same_new (o := HO.tup [V.int (gI ds (hn : Int) + 1)]) hp2
          have ts : ds.take hn ++ [gI ds (hn : Int) + 1] ++ ds.drop (hn + 1) = stp ds (hn : Int) := by rw [take_set hnl]; rfl
          have fin : ∀ (z : Addr) (H' : Hp), H' z = some (.tup ((ds.take hn ++ [gI ds (hn : Int) + 1]).map V.int)) → Same H12 H' → ∀ (p3 : Addr), H' p3 = none → ∀ (Q' : VK), (∀ (y : Addr) (H'' : Hp), H'' y = some (.tup ((stp ds (hn : Int)).map V.int)) → Same H12 H'' → Q' (.ref y) H'') → rCatA K (.ref z) (.ref p3) (upd H' p3 (.tup ((ds.map V.int).drop (hn + 1)))) Q' := fun z H' ez sm p3 hp3 Q' kQ => by
            have u3 := same_new (o := HO.tup ((ds.map V.int).drop (hn + 1))) hp3
            refine ⟨z, p3, _, _, rfl, rfl, SqT.of (u3 _ _ ez), SqT.of upd_same, by rw [List.length_map, List.length_append, List.length_take, List.length_singleton, List.length_drop, List.length_map, sizeLine_eq]; omega, fun e => ?_, fun _ e => ?_, fun _ _ p4 hp4 => ?_⟩
            · have : ((ds.take hn ++ [gI ds (hn : Int) + 1]).map V.int).length = 0 := by rw [e]; rfl
              rw [List.length_map, List.length_append, List.length_singleton] at this
              omega
            · refine kQ z _ ?_ (sm.trans u3)
              rw [u3 _ _ ez, ← ts]
              have : ds.drop (hn + 1) = [] := by
                have := congrArg List.length e
                rw [List.length_drop, List.length_map, List.length_nil] at this
                exact List.drop_eq_nil_of_le (by omega)
              rw [this, List.append_nil]
            · have u4 := same_new (o := HO.tup ((ds.take hn ++ [gI ds (hn : Int) + 1]).map V.int ++ (ds.map V.int).drop (hn + 1))) hp4
              refine kQ p4 _ ?_ ((sm.trans u3).trans u4)
              rw [upd_same, ← ts, List.map_append (l₁ := ds.take hn ++ [gI ds (hn : Int) + 1]), List.map_drop]
          have u12 := u1.trans u2
          have two : ∀ (Q' : VK), (∀ (z : Addr) (H' : Hp), H' z = some (.tup ((ds.take hn ++ [gI ds (hn : Int) + 1]).map V.int)) → Same H12 H' → Q' (.ref z) H') → rCatA K (.ref p1) (.ref p2) (upd (upd H12 p1 (.tup ((ds.map V.int).take hn))) p2 (.tup [V.int (gI ds (hn : Int) + 1)])) Q' := fun Q' kQ => by
            refine ⟨p1, p2, _, _, rfl, rfl, SqT.of (u2 _ _ upd_same), SqT.of upd_same, by rw [List.length_take, List.length_map, List.length_singleton, sizeLine_eq]; omega, fun e => ?_, fun _ e => (by cases e), fun _ _ p3 hp3 => ?_⟩
            · have h00 : hn = 0 := by
                have := congrArg List.length e
                rw [List.length_take, List.length_map, List.length_nil] at this
                omega
              refine kQ p2 _ ?_ u12
              rw [upd_same, h00]
              rfl
            · have u3 := same_new (o := HO.tup ((ds.map V.int).take hn ++ [V.int (gI ds (hn : Int) + 1)])) hp3
              refine kQ p3 _ ?_ (u12.trans u3)
              rw [upd_same, List.map_append, List.map_take]; rfl
          refine two _ fun z H13 ez s13 => ?_
          refine ⟨_, rfl, _, rfl, _, _, rfl, rfl, _, rfl, b, _, rfl, SqT.of (s13 _ _ hb12), by rw [List.length_map, show ((hn : Nat) : Int) + 1 = ((hn + 1 : Nat) : Int) by omega]; exact part_from hnl, fun p3 hp3 => ?_⟩
          rw [show ((hn : Nat) : Int) + 1 = ((hn + 1 : Nat) : Int) by omega, cut_drop]
          refine fin z H13 ez s13 p3 hp3 _ fun y H14 ey s14 => ?_
          -- further[longer] = further.get(longer, 0) + latest[cut]
          have hg14 := s14 _ _ hg12
          have hl14 := s14 _ _ hl12
          have hb14 := s14 _ _ hb12
          have ey' : H14 y = some (.tup ((encI (stp ds (hn : Int))).map kV)) := by rw [encI_kV]; exact ey
          have hb' : H14 b = some (.tup ((encI ds).map kV)) := by rw [encI_kV]; exact hb14
          refine ⟨_, rfl, g, rfl, .inr ⟨_, .inl hg14⟩, _, rfl, _, DGet.t (k := encI (stp ds (hn : Int))) hg14 ey', ?_⟩
          rw [val_enc]
          refine ⟨_, rfl, _, rfl, l, _, rfl, .inr ⟨_, encI ds, b, .inr ⟨ob, hl14⟩, rfl, hb', (val_at LA.nl ei).symm⟩, _, _, rfl, rfl, _, rfl, _, rfl, g, _, rfl, DPut.t (k := encI (stp ds (hn : Int))) hg14 ey' ?_, ?_⟩
          · have i5 : i < lat.length := (List.getElem?_eq_some_iff.mp ei).1
            have j8 : j < (freeH cs ns ds).length := (List.getElem?_eq_some_iff.mp ej).1
            unfold encK
            rw [List.length_map, sizeLine_eq]; omega
          rw [put_enc nf]
          have kg : Kp g H14 (upd H14 g (.dT (encK (addP fl (stp ds (hn : Int)) v)))) := Kp.set
          refine ⟨addP fl (stp ds (hn : Int)) v, _, _, rfl, fun x u e => kg _ _ ((S12.trans s14) _ _ e) (ne_of_none e hg1), kg _ _ (s14 _ _ hw12) ngw.symm, upd_same, kg _ _ hl14 ngl.symm, kg _ _ (s14 _ _ hq12) ?_, kg _ _ hb14 (ne_of hb14 hg14 (fun z => nomatch z)), add_nodup nf _ _, fun ds' hd' => ?_, ?_, fun d' => ?_, ?_⟩
          · exact ne_of (s14 _ _ hq12) hg14 (fun z => nomatch z)
          · rcases add_mem hd' with rfl | hd'
            · exact ⟨stp_ok dd h0 h1 fr, by rw [stp_sum dd h0 h1, dsum]; omega⟩
            · exact fd ds' hd'
          · rw [wsum_add, fw, tkj, List.map_append, List.sum_append, Nat.mul_add]
            simp only [List.map_cons, List.map_nil, List.sum_cons, List.sum_nil, Nat.add_zero]
            omega
          · rw [add_mem_iff, frk, tkj]
            simp only [List.mem_append, List.mem_singleton]
            constructor
            · rintro (h | h | ⟨h', m, e⟩)
              · exact .inr ⟨_, .inr rfl, h⟩
              · exact .inl h
              · exact .inr ⟨h', .inl m, e⟩
            · rintro (h | ⟨h', m | rfl, e⟩)
              · exact .inr (.inl h)
              · exact .inr (.inr ⟨h', m, e⟩)
              · exact .inl e
          · have := add_len fl (stp ds (hn : Int)) v
            omega
      · rintro σ H12 ⟨fl, x3, x4, rfl, S12, hw12, hg12, hl12, hq12, hb12, nf, fd, fw, frk, fll⟩
        refine ⟨fl, _, _, _, rfl, S12, hw12, hg12, hl12, nf, fd, ?_, fun d' => ?_, by rw [List.length_map] at fll; omega⟩
        rotate_left
        · rw [frk, tk, List.length_map, List.take_length, List.map_append]
          simp only [List.map_cons, List.map_nil, List.mem_append, List.mem_singleton]
          constructor
          · rintro (⟨es, he, h⟩ | h)
            · exact ⟨es, .inl he, h⟩
            · exact ⟨ds, .inr rfl, h⟩
          · rintro ⟨es, he | rfl, h⟩
            · exact .inl ⟨es, he, h⟩
            · exact .inr h
        rw [List.length_map, List.take_length] at fw
        rw [fw, tk]
        unfold wsum
        rw [List.map_append, List.sum_append]
        simp
    · rintro σ H10 ⟨fl, x2, x3, x4, rfl, S10, hw10, hg10, hl10, nf, fd, fw, frk, fll⟩
      have elen : (encK lat).length = lat.length := by unfold encK; rw [List.length_map]
      rw [elen, List.take_length] at fw frk
      rw [elen] at fll
      obtain ⟨LB, nle⟩ := layG_next ok.1 LG en nf fd fw frk
      refine ⟨_, ⟨l, _, ob, _, hl9, hl10, rfl⟩, ?_⟩
      have kl2 : Kp l H10 (upd H10 l (.dT (encK lat))) := Kp.set
      refine ⟨_, rfl, ?_⟩
      exact ⟨_, by omega, n + 1, fl, ws ++ lat, g, _, _, _, _, rfl, kl2 _ _ hw10 nwl, kl2 _ _ hg10 ngl, ngw.symm, hg1, fun x u e => kl2 _ _ (S10 _ _ e) (ne_of_none e hl1), LB, by omega, by omega, rfl⟩

def spHmo3 (CT : Addr) (K : PySem.W.Frag) : Sp := fun vs H Q E => ∃ (t c a : Addr) (cs : List Int) (ns : List Nt) (most : Int), vs = [.ref t, .int most] ∧ RecAt H t c a cs ns ∧ RecOk cs ns ∧ 0 ≤ most ∧ most ≤ 5000 ∧ (∀ (ks : List (List Int)) (H' : Hp), ks.Nodup → (∀ ds ∈ ks, Rch cs ns ds) → most < ks.length → Same H H' → E (.ref CT) none H') ∧ (∀ (ks : List (List Int)), ks.Nodup → (∀ ds, ds ∈ ks ↔ Rch cs ns ds) → (ks.length : Int) ≤ most → ∀ H', Same H H' → Q (.int (cntW cs ns cs.sum.toNat (zs cs) : Nat)) H')
theorem ok_hmo3 {tk : Tok} {f : Addr} {fd : FuncData} (F : FunD K "how_many_orders" "how_many_orders" s_how_many_orders [.int 2000 tk] f fd) {C_TooMany : Addr} (F_check_notes : FnAt P w K mg base 4 "check_notes" ["record"] (spCheckN K)) (F_ways_to_cuts : FnAtX P w K mg base 4 "ways_to_cuts" ["record", "most"] (spWaysG C_TooMany K)) (Bt : Blt mg) : FnOk P w K mg base (CX1 P w) 5 f fd ["record", "most"] (spHmo3 C_TooMany K) := by
  refine F.okX sc_how_many_orders (fun vs H Q E h => ?_) (fun cdv A outer s H vs Q E hr h hR => ?_)
  · obtain ⟨t, c, a, cs, ns, most, rfl, _⟩ := h
    rfl
  · obtain ⟨t, c, a, cs, ns, most, rfl, R, ok, m0, m5, kE, k⟩ := h
    have hu := hu_of hr
    refine ⟨_, (pss_cons (ps_expr (pe_fn F_check_notes (hr.mono (by decide)) (by rfl) (pa_cons (pv 0) pa_nil)))
      (pss_one (ps_ret (pe_dget2 hu (pe_fnX F_ways_to_cuts rfl hR (hr.mono (by decide)) (by rfl) (pa_cons (pv 0) (pa_cons (pv 1) pa_nil))) (pe_callTy call_tuple_of (by rfl) Bt.b_tuple bt_tuple (pa_cons (pe_ix (ix_tupK (K := K) rfl) (pv 0) pe_int (fun _ _ => rfl)) pa_nil)) pe_int ⟨rfl, rfl, rfl, rfl⟩)))), ?_⟩
    refine ⟨_, rfl, t, c, a, cs, ns, rfl, R, ok, fun H1 s1 => ?_⟩
    refine ⟨_, rfl, _, rfl, t, c, a, cs, ns, most, rfl, R.same s1, ok, m0, m5, fun ks H2 n1 n2 n3 s2 => kE ks H2 n1 n2 n3 (s1.trans s2), fun w l H2 ew eg n1 n2 n3 s2 => ?_⟩
    have R2 := (R.same s1).same s2
    refine ⟨w, rfl, .inr ⟨_, .inl ew⟩, _, rfl, _, _, _, _, rfl, rfl, SqT.of R2.1, rfl, c, _, rfl, .inl ⟨SqL.of R2.2.1, fun q hq => ?_⟩⟩
    have sq := same_new (o := HO.tup (cs.map V.int)) hq
    refine ⟨_, DGet.t (k := encI cs) (sq _ _ ew) (by rw [upd_same, encI_kV]), ?_⟩
    rw [val_enc, eg]
    exact k (l.map (·.1)) n1 n2 (by rw [List.length_map]; exact n3) _ ((s1.trans s2).trans sq)
def spHmc3 (CT : Addr) (K : PySem.W.Frag) : Sp := fun vs H Q E => ∃ (t c a : Addr) (cs : List Int) (ns : List Nt) (most : Int), vs = [.ref t, .int most] ∧ RecAt H t c a cs ns ∧ RecOk cs ns ∧ 0 ≤ most ∧ most ≤ 5000 ∧ (∀ (ks : List (List Int)) (H' : Hp), ks.Nodup → (∀ ds ∈ ks, Rch cs ns ds) → most < ks.length → Same H H' → E (.ref CT) none H') ∧ (∀ (ks : List (List Int)), ks.Nodup → (∀ ds, ds ∈ ks ↔ Rch cs ns ds) → (ks.length : Int) ≤ most → ∀ H', Same H H' → Q (.int (ks.length : Nat)) H')
theorem ok_hmc3 {tk : Tok} {f : Addr} {fd : FuncData} (F : FunD K "how_many_cuts" "how_many_cuts" s_how_many_cuts [.int 2000 tk] f fd) {C_TooMany : Addr} (F_check_notes : FnAt P w K mg base 4 "check_notes" ["record"] (spCheckN K)) (F_ways_to_cuts : FnAtX P w K mg base 4 "ways_to_cuts" ["record", "most"] (spWaysG C_TooMany K)) (Bt : Blt mg) : FnOk P w K mg base (CX1 P w) 5 f fd ["record", "most"] (spHmc3 C_TooMany K) := by
  refine F.okX sc_how_many_cuts (fun vs H Q E h => ?_) (fun cdv A outer s H vs Q E hr h hR => ?_)
  · obtain ⟨t, c, a, cs, ns, most, rfl, _⟩ := h
    rfl
  · obtain ⟨t, c, a, cs, ns, most, rfl, R, ok, m0, m5, kE, k⟩ := h
    refine ⟨_, (pss_cons (ps_expr (pe_fn F_check_notes (hr.mono (by decide)) (by rfl) (pa_cons (pv 0) pa_nil)))
      (pss_one (ps_ret (pe_callB call_lenT (by rfl) Bt.b_len bt_len (pa_cons (pe_fnX F_ways_to_cuts rfl hR (hr.mono (by decide)) (by rfl) (pa_cons (pv 0) (pa_cons (pv 1) pa_nil))) pa_nil))))), ?_⟩
    refine ⟨_, rfl, t, c, a, cs, ns, rfl, R, ok, fun H1 s1 => ?_⟩
    refine ⟨_, rfl, _, rfl, t, c, a, cs, ns, most, rfl, R.same s1, ok, m0, m5, fun ks H2 n1 n2 n3 s2 => kE ks H2 n1 n2 n3 (s1.trans s2), fun w l H2 ew eg n1 n2 n3 s2 => ?_⟩
    have := k (l.map (·.1)) n1 n2 (by rw [List.length_map]; exact n3) H2 (s1.trans s2)
    refine ⟨w, _, rfl, ew, ?_⟩
    have e : (encK l).length = (l.map (·.1)).length := by unfold encK; rw [List.length_map, List.length_map]
    rw [e]
    exact this

/-! ### layers of cuts -/
structure Lyr (cs : List Int) (ns : List Nt) (n : Nat) (lat : List (List Int × Nat)) : Prop where
  nl : (lat.map (·.1)).Nodup
  ld : ∀ ds ∈ lat.map (·.1), DoneOk cs ds ∧ ds.sum = n
  lw : (n : Int) ≤ cs.sum → wsum lat (cntW cs ns (cs.sum.toNat - n)) = cntW cs ns cs.sum.toNat (zs cs)
  lr : ∀ ds, ds ∈ lat.map (·.1) ↔ Rch cs ns ds ∧ ds.sum = n
theorem lyr0 {cs : List Int} {ns : List Nt} (ok : CsOk cs) : Lyr cs ns 0 [(zs cs, 1)] := ⟨(layG0 (ns := ns) ok).ly.nl, (layG0 (ns := ns) ok).ly.ld, (layG0 (ns := ns) ok).ly.lw, (layG0 (ns := ns) ok).lr⟩
theorem lyr_next {cs : List Int} {ns : List Nt} (ok : CsOk cs) {n : Nat} {lat fl : List (List Int × Nat)} (L : Lyr cs ns n lat) (nf : (fl.map (·.1)).Nodup) (fd : ∀ ds ∈ fl.map (·.1), DoneOk cs ds ∧ ds.sum = (n + 1 : Nat))
    (fw : wsum fl (cntW cs ns (cs.sum.toNat - n - 1)) = wsum lat fun ds => ((freeH cs ns ds).map fun h => cntW cs ns (cs.sum.toNat - n - 1) (stp ds h)).sum)
    (fr : ∀ d', d' ∈ fl.map (·.1) ↔ ∃ ds ∈ lat.map (·.1), ∃ h ∈ freeH cs ns ds, d' = stp ds h) : Lyr cs ns (n + 1) fl := by
  refine ⟨nf, fd, fun l1 => ?_, fun ds => ?_⟩
  · rw [show cs.sum.toNat - (n + 1) = cs.sum.toNat - n - 1 by omega, fw, ← L.lw (by omega)]
    obtain ⟨m, hm⟩ : ∃ m, cs.sum.toNat - n = m + 1 := ⟨cs.sum.toNat - n - 1, by omega⟩
    rw [hm]
    rfl
  · rw [fr]
    constructor
    · rintro ⟨es, he, h, hh, rfl⟩
      obtain ⟨r, e⟩ := (L.lr es).mp he
      obtain ⟨h0, h1, _⟩ := mem_freeH.mp hh
      exact ⟨.step r hh, by rw [stp_sum (r.ok ok) h0 h1]; omega⟩
    · rintro ⟨r, e⟩
      obtain ⟨es, h, r', e', hh, rfl⟩ := r.back ok e
      exact ⟨es, (L.lr es).mpr ⟨r', e'⟩, h, hh, rfl⟩
/-- the last layer -/
theorem lyr_last {cs : List Int} {ns : List Nt} {n : Nat} {lat : List (List Int × Nat)} (L : Lyr cs ns n lat) (e : (n : Int) = cs.sum) : (cs ∈ lat.map (·.1) → (lat.map (·.2)).sum = cntW cs ns cs.sum.toNat (zs cs)) ∧ (cs ∉ lat.map (·.1) → cntW cs ns cs.sum.toNat (zs cs) = 0) := by
  have all : ∀ ds ∈ lat.map (·.1), ds = cs := fun ds hd => done_full (L.ld ds hd).1 (by rw [(L.ld ds hd).2]; omega)
  have lw := L.lw (by omega)
  rw [show cs.sum.toNat - n = 0 by omega] at lw
  constructor
  · intro _
    rw [← lw]
    unfold wsum
    congr 1
    refine List.map_congr_left fun p hp => ?_
    have : p.1 = cs := all p.1 (List.mem_map.mpr ⟨p, hp, rfl⟩)
    show p.2 = p.2 * if p.1 = cs then 1 else 0
    rw [if_pos this, Nat.mul_one]
  · intro no
    have : lat = [] := by
      cases lat with
      | nil => rfl
      | cons p l =>
        have := all p.1 (by simp)
        exact absurd (by rw [← this]; simp) no
    rw [← lw, this]
    rfl
/-- in another order -/
theorem lat_perm {lat : List (List Int × Nat)} {ms : List (List Int)} (nd : (lat.map (·.1)).Nodup) (p : ms.Perm (lat.map (·.1))) : ∃ l2 : List (List Int × Nat), l2.Perm lat ∧ l2.map (·.1) = ms := by
  have key : ∀ (l : List (List Int × Nat)), (l.map (·.1)).Nodup → ∀ (f : List Int → Nat), (∀ q ∈ l, f q.1 = q.2) → (l.map (·.1)).map (fun k => (k, f k)) = l := fun l _ f h => by
    rw [List.map_map]
    refine (List.map_congr_left fun q hq => ?_).trans (List.map_id l)
    show (q.1, f q.1) = q
    rw [h q hq]
  have hg : ∀ q ∈ lat, getP lat q.1 = q.2 := fun q hq => by
    obtain ⟨i, hi, e⟩ := List.getElem_of_mem hq
    have := val_at nd (i := i) (k := q.1) (v := q.2) (by rw [List.getElem?_eq_getElem hi, e])
    have ve := val_enc q.1 lat
    rw [this] at ve
    injection ve with ve
    exact Int.ofNat.inj ve.symm
  refine ⟨ms.map fun k => (k, getP lat k), ?_, by rw [List.map_map]; exact (List.map_congr_left fun x _ => rfl).trans (List.map_id ms)⟩
  have := p.map fun k => (k, getP lat k)
  rwa [key lat nd _ hg] at this
theorem wsum_perm {l m : List (List Int × Nat)} (p : l.Perm m) (f : List Int → Nat) : wsum l f = wsum m f := by
  unfold wsum
  exact (p.map _).sum_nat
/-- the hands below j that are free -/
def freeJ (cs : List Int) (ns : List Nt) (ds : List Int) (j : Nat) : List Int := (List.range j).filterMap fun (i : Nat) => if isFree cs ns ds (i : Int) then some (i : Int) else none
theorem freeJ_succ (cs : List Int) (ns : List Nt) (ds : List Int) (j : Nat) : freeJ cs ns ds (j + 1) = freeJ cs ns ds j ++ if isFree cs ns ds (j : Int) then [(j : Int)] else [] := by
  unfold freeJ
  rw [List.range_succ, List.filterMap_append]
  congr 1
  by_cases q : isFree cs ns ds (j : Int) = true
  · simp [q]
  · simp [q]
/-- whom a note holds -/
def heldJ (ns : List Nt) (ds : List Int) : List Int := (ns.filter fun x => decide (x.2.2.2 = gI ds x.2.2.1) && decide (gI ds x.1 ≤ x.2.1)).map (·.2.2.1)
theorem free_heldJ {cs : List Int} {ns : List Nt} {ds : List Int} {h : Int} (d : DoneOk cs ds) (h0 : 0 ≤ h) (h1 : h < cs.length) : isFree cs ns ds h = true ↔ gI ds h < gI cs h ∧ h ∉ heldJ ns ds := by
  rw [free_iff]
  have := (d.2 h h0 h1).2
  unfold heldJ
  constructor
  · rintro ⟨ne, al⟩
    refine ⟨by omega, fun m => ?_⟩
    obtain ⟨x, hx, e⟩ := List.mem_map.mp m
    obtain ⟨hx, q⟩ := List.mem_filter.mp hx
    simp only [Bool.and_eq_true, decide_eq_true_eq] at q
    have := al x hx e (by rw [q.1, e])
    omega
  · rintro ⟨lt, no⟩
    refine ⟨by omega, fun x hx e1 e2 => ?_⟩
    refine Classical.byContradiction fun w => no (List.mem_map.mpr ⟨x, List.mem_filter.mpr ⟨hx, ?_⟩, e1⟩)
    simp only [Bool.and_eq_true, decide_eq_true_eq]
    exact ⟨by rw [e1]; exact e2, by omega⟩
theorem sub_len {α : Type} [DecidableEq α] : ∀ {l m : List α}, l.Nodup → (∀ x ∈ l, x ∈ m) → l.length ≤ m.length
  | [], _, _, _ => Nat.zero_le _
  | x :: l, m, nd, h => by
    rw [List.nodup_cons] at nd
    have hx := h x (by simp)
    have := sub_len (l := l) (m := m.erase x) nd.2 fun y hy => by
      have ne : y ≠ x := fun z => nd.1 (z ▸ hy)
      exact (List.mem_erase_of_ne ne).mpr (h y (by simp [hy]))
    rw [List.length_erase_of_mem hx] at this
    have : 0 < m.length := List.length_pos_of_mem hx
    rw [List.length_cons]
    omega

theorem inV_ints (h : Int) : ∀ l : List Int, inV (.int h) (l.map V.int) = l.contains h
  | [] => rfl
  | x :: l => by
    have ih := inV_ints h l
    unfold inV at ih ⊢
    rw [List.map_cons, List.any_cons, ih, List.contains_cons]
    congr 1
    show (x == h) = (h == x)
    rw [Bool.eq_iff_iff]
    simp only [beq_iff_eq]
    exact ⟨fun z => z.symm, fun z => z.symm⟩
theorem flat_ints (l : List Int) : (l.map V.int).all flatV = true := by
  induction l with
  | nil => rfl
  | cons x l ih => rw [List.map_cons, List.all_cons, ih]; rfl

def spLayer (K : PySem.W.Frag) : Sp := fun vs H Q _ => ∃ (t c a d : Addr) (cs : List Int) (ns : List Nt) (n : Nat) (lat : List (List Int × Nat)), vs = [.ref t, .ref d] ∧ RecAt H t c a cs ns ∧ RecOk cs ns ∧ H d = some (.dT (encK lat)) ∧ Lyr cs ns n lat ∧ (n : Int) < cs.sum ∧ lat.length ≤ 5000 ∧
  ∀ (g : Addr) (fl : List (List Int × Nat)) (H' : Hp), H g = none → H' g = some (.dT (encK fl)) → Lyr cs ns (n + 1) fl → fl.length ≤ 8 * lat.length → Same H H' → Q (.ref g) H'
theorem heldJ_fm (ns : List Nt) (ds : List Int) (m : Nat) (e : m = ns.length) : (List.range m).filterMap (fun i => (ns[i]?).bind fun x => if (decide (x.2.2.2 = gI ds x.2.2.1) && decide (gI ds x.1 ≤ x.2.1)) then some (V.int x.2.2.1) else none) = (heldJ ns ds).map V.int := by
  subst e
  unfold heldJ
  refine snocInd (P := fun ns => (List.range ns.length).filterMap (fun i => (ns[i]?).bind fun x => if (decide (x.2.2.2 = gI ds x.2.2.1) && decide (gI ds x.1 ≤ x.2.1)) then some (V.int x.2.2.1) else none) = ((ns.filter fun x => decide (x.2.2.2 = gI ds x.2.2.1) && decide (gI ds x.1 ≤ x.2.1)).map (·.2.2.1)).map V.int) rfl (fun xs x ih => ?_) ns
  rw [List.length_append, List.length_singleton, List.range_succ, List.filterMap_append, List.filter_append, List.map_append, List.map_append]
  congr 1
  · rw [← ih]
    refine fm_congr _ trivial fun i hi => ?_
    have : i < xs.length := by simpa using hi
    rw [List.getElem?_append_left this]
  · have ex : (xs ++ [x])[xs.length]? = some x := by simp
    by_cases q : (decide (x.2.2.2 = gI ds x.2.2.1) && decide (gI ds x.1 ≤ x.2.1)) = true
    · simp only [List.filterMap_cons, List.filterMap_nil, ex, Option.bind_some, List.filter_cons, List.filter_nil]
      rw [if_pos q, if_pos q]
      rfl
    · simp only [List.filterMap_cons, List.filterMap_nil, ex, Option.bind_some, List.filter_cons, List.filter_nil]
      rw [if_neg q, if_neg q]
      rfl
theorem in_intsJ (h : Int) (l : List Int) : inV (.int h) (l.map V.int) = decide (h ∈ l) := by rw [inV_ints]; simp
theorem stp_fm {cs ds : List Int} {h : Nat} (dl : ds.length = cs.length) (h1 : h < cs.length) : (List.range cs.length).filterMap (fun k : Nat => some (V.int (gI ds (k : Int) + if decide (V.int (k : Int) = V.int (h : Int)) = true then 1 else 0))) = (stp ds (h : Int)).map V.int := by
  have e : (List.range cs.length).filterMap (fun k : Nat => some (V.int (gI ds (k : Int) + if decide (V.int (k : Int) = V.int (h : Int)) = true then 1 else 0))) = (List.range cs.length).map (fun k : Nat => V.int (gI ds (k : Int) + if decide (V.int (k : Int) = V.int (h : Int)) = true then 1 else 0)) := by
    rw [← List.filterMap_eq_map]; rfl
  rw [e]
  refine List.ext_getElem (by simp [stp, dl]) fun k k1 k2 => ?_
  have kl : k < cs.length := by simpa using k1
  rw [List.getElem_map, List.getElem_range, List.getElem_map]
  congr 1
  have := gI_stp (cs := cs) (ds := ds) (h := (h : Int)) (g := (k : Int)) dl (by omega) (by omega) (by omega)
  rw [gI_nat (cs := stp ds (h : Int)) (i := k) (c := (stp ds (h : Int))[k]'(by simpa using k2)) (by rw [List.getElem?_eq_getElem])] at this
  rw [this]
  congr 1
  by_cases q : k = h
  · subst q; simp
  · rw [if_neg (by rw [decide_eq_false fun z => q (by injection z with z; omega)]; simp), if_neg (by omega)]
theorem ok_layer {f : Addr} {fd : FuncData} (F : Fun K "_law_layer" "_law_layer" s_Llayer f fd) (Bt : Blt mg) : FnOk P w K mg base CX0 1 f fd ["record", "here"] (spLayer K) := by
  refine F.ok sc_Llayer (fun vs H Q E h => ?_) (fun cdv A outer s H vs Q E hr h => ?_)
  · obtain ⟨t, c, a, d, cs, ns, n, lat, rfl, _⟩ := h
    rfl
  · obtain ⟨t, c, a, d, cs, ns, n, lat, rfl, R, ok, hd, L, nlt, l5, k⟩ := h
    have hu := hu_of hr
    have hu64 := hr.units
    have c8 := ok.1.1
    have nl := ok.2.1
    obtain ⟨ht, hc, nvs, ha, dn⟩ := id R
    have nvl : nvs.length = ns.length := by rw [dn.length, List.length_map]
    have cpos : 1 ≤ cs.length := by
      cases cs with
      | nil => simp at nlt; omega
      | cons x l => simp
    refine ⟨_, (pss_cons (ps_asg (pv 0) (pg_tupK (K := K) (n := 2) rfl rfl (pgs_cons (pg_name (i := 2) sc_Llayer.nd rfl (Or.inl rfl)) (pgs_cons (pg_name (i := 3) sc_Llayer.nd rfl (Or.inl rfl)) pgs_nil))))
      (pss_cons (ps_set (i := 4) sc_Llayer.nd rfl (Or.inl rfl) pe_dnewT)
      (pss_cons (ps_for PassesOwn.never rfl (pi_listK (K := K) rfl (pe_callB (call_sortD rfl) (by rfl) Bt.b_sorted bt_sorted (pa_cons (pv 1) pa_nil))) (pg_name (i := 5) sc_Llayer.nd rfl (Or.inr rfl))
      (pss_cons (ps_setC (i := 6) rfl sc_Llayer.nd rfl (Or.inl rfl) (N := ["tie", "now"]) (own := ["tie"]) (caps := [5]) (CompScope.of (by kernel_rfl)) (pi_listK (K := K) rfl (pv 3)) (fun _ _ _ _ => (pg_name (i := 0) (show List.Nodup (["tie", "now"] : List Str) by decide +kernel) rfl (Or.inl rfl))) (fun _ _ _ _ => (pts_one (PW.pt (pw_and (pt_cmpR op_eq (pe_ix (ix_tupK (K := K) rfl) (pv 0) pe_int (fun _ _ => rfl)) (pe_ix (ix_tupK (K := K) rfl) (pv 1) (pe_ix (ix_tupK (K := K) rfl) (pv 0) pe_int (fun _ _ => rfl)) (fun _ _ => rfl)) (nomark _)) (pw_and1 (pt_cmpR op_ge (pe_ix (ix_tupK (K := K) rfl) (pv 0) pe_int (fun _ _ => rfl)) (pe_ix (ix_tupK (K := K) rfl) (pv 1) (pe_ix (ix_tupK (K := K) rfl) (pv 0) pe_int (fun _ _ => rfl)) (fun _ _ => rfl)) (nomark _))))))) (fun _ _ _ _ => (pe_ix (ix_tupK (K := K) rfl) (pv 0) pe_int (fun _ _ => rfl))))
      (pss_one (ps_for PassesOwn.never rfl (pi_range1 (by rfl) Bt.b_range (pa_cons (pe_callB (call_len_seqK (K := K) rfl) (by rfl) Bt.b_len bt_len (pa_cons (pv 2) pa_nil)) pa_nil)) (pg_name (i := 7) sc_Llayer.nd rfl (Or.inr rfl))
      (pss_one (ps_if (PW.pt (pw_and (pt_cmpR op_lt (pe_ix (ix_tupK (K := K) rfl) (pv 5) (pv 7) (fun _ _ => rfl)) (pe_ix (ix_listK (K := K) rfl) (pv 2) (pv 7) (fun _ _ => rfl)) (nomark _)) (pw_and1 (pt_cmpR (op_notIn_seqK (K := K) rfl) (pv 7) (pv 6) (by with_unfolding_all rfl))))) (pss_cons (ps_set (i := 8) sc_Llayer.nd rfl (Or.inl rfl) (pe_callTy call_tuple_of (by rfl) Bt.b_tuple bt_tuple (pa_cons (pe_comp rfl (N := ["k", "now", "hand"]) (own := ["k"]) (caps := [5, 7]) (CompScope.of (by kernel_rfl)) (pi_range1 (by rfl) Bt.b_range (pa_cons (pe_callB (call_len_seqK (K := K) rfl) (by rfl) Bt.b_len bt_len (pa_cons (pv 2) pa_nil)) pa_nil)) (fun _ _ _ _ => (pg_name (i := 0) (show List.Nodup (["k", "now", "hand"] : List Str) by decide +kernel) rfl (Or.inl rfl))) (fun _ _ _ _ => pts_nil) (fun _ _ _ _ => (pe_op op_add (pe_ix (ix_tupK (K := K) rfl) (pv 1) (pv 0) (fun _ _ => rfl)) (pe_callTy call_int1 (by rfl) Bt.b_int bt_int (pa_cons (pe_cmpR op_eq (pv 0) (pv 2) (nomark _)) pa_nil))))) pa_nil)))
      (pss_one (ps_dput hu (pv 4) (pv 8) (pe_op op_add (pe_dget2 hu (pv 4) (pv 8) pe_int ⟨rfl, rfl, rfl, rfl⟩) (pe_dget hu (pv 1) (pv 5) (fun _ _ => rfl))) rfl))) pss_nil))))))
      (pss_one (ps_ret (pv 4)))))), ?_⟩
    refine ⟨_, rfl, t, _, rfl, SqT.of ht, rfl, _, _, rfl, _, _, rfl, rfl, ?_⟩
    intro g hg
    have s1 := same_new (o := HO.dT []) hg
    have hg1 : (upd H g (.dT [])) g = some (.dT (encK [])) := upd_same
    generalize upd H g (.dT []) = H1 at s1 hg1 ⊢
    have hd1 := s1 _ _ hd
    have ngd : g ≠ d := (ne_of_none hd hg).symm
    refine ⟨_, rfl, d, encK lat, cs.length, lat.map (·.1), rfl, hd1, by unfold encK; rw [List.map_map, List.map_map]; rfl, cpos, fun l hl => (L.ld l hl).1.1, fun p zsv ms hp pm _ zl zat => ?_⟩
    obtain ⟨l2, lp, lk⟩ := lat_perm L.nl pm
    have s2 := same_new (o := HO.lst zsv) hp
    have hp2 : (upd H1 p (.lst zsv)) p = some (.lst zsv) := upd_same
    have ngp : g ≠ p := ne_of_none hg1 hp
    have npH : H p = none := s1.free hp
    have S2 := s1.trans s2
    have hg2 := s2 _ _ hg1
    have zat2 : ∀ (i : Nat) m, ms[i]? = some m → ∃ b, zsv[i]? = some (.ref b) ∧ H1 b = some (.tup (m.map V.int)) := zat
    have bH : ∀ (b : Addr) (m : List Int) (H' : Hp), H1 b = some (.tup (m.map V.int)) → (∀ x ys, H1 x = some (.tup ys) → H' x = some (.tup ys)) → H' b = some (.tup (m.map V.int)) := fun b m H' e kp => kp _ _ e
    generalize upd H1 p (.lst zsv) = H2 at s2 hp2 S2 hg2 ⊢
    refine ⟨p, rfl, ⟨_, SqL.of hp2⟩, ?_⟩
    refine for_list (K := K) (a := p) (xs := zsv) (fun i σ H3 => ∃ (fl : List (List Int × Nat)) (x1 x2 x3 x4 : Option V), σ = [some (.ref t), some (.ref d), some (.ref c), some (.ref a), some (.ref g), x1, x2, x3, x4] ∧ Same H H3 ∧ H3 g = some (.dT (encK fl)) ∧ H3 p = some (.lst zsv) ∧ (∀ x ys, H1 x = some (.tup ys) → H3 x = some (.tup ys)) ∧ (fl.map (·.1)).Nodup ∧ (∀ ds ∈ fl.map (·.1), DoneOk cs ds ∧ ds.sum = (n + 1 : Nat)) ∧
        (wsum fl (cntW cs ns (cs.sum.toNat - n - 1)) = wsum (l2.take i) fun ds => ((freeH cs ns ds).map fun h => cntW cs ns (cs.sum.toNat - n - 1) (stp ds h)).sum) ∧ (∀ d', d' ∈ fl.map (·.1) ↔ ∃ ds ∈ (l2.take i).map (·.1), ∃ h ∈ freeH cs ns ds, d' = stp ds h) ∧ fl.length ≤ 8 * i)
      ⟨[], none, none, none, none, rfl, S2, hg2, hp2, (fun x ys e => s2 _ _ e), by simp, (fun ds hd => by cases hd), rfl, (fun d' => by simp), by simp⟩ (fun i σ H3 _ ⟨_, _, _, _, _, _, _, _, e, _⟩ => SqL.of e) ?_ ?_
    · rintro i v σ H3 hi ⟨fl, x1, x2, x3, x4, rfl, S3, hg3, hp3, tp3, nf, fd, fw, frk, fll⟩
      have il : i < zsv.length := (List.getElem?_eq_some_iff.mp hi).1
      obtain ⟨⟨ds, vv⟩, ei⟩ : ∃ q, l2[i]? = some q := ⟨l2[i]'(by have := congrArg List.length lk; rw [List.length_map] at this; omega), by simp⟩
      have emi : ms[i]? = some ds := by rw [← lk, List.getElem?_map, ei]; rfl
      obtain ⟨b, eb, hb⟩ := zat i ds emi
      rw [hi] at eb
      cases eb
      have mem : (ds, vv) ∈ lat := lp.mem_iff.mp (List.mem_of_getElem? ei)
      obtain ⟨dd, dsum⟩ := L.ld ds (List.mem_map.mpr ⟨_, mem, rfl⟩)
      have dl := dd.1
      obtain ⟨i0, hi0, ei0⟩ := List.getElem_of_mem mem
      have hval := val_at L.nl (i := i0) (k := ds) (v := vv) (by rw [List.getElem?_eq_getElem hi0, ei0])
      have hb3 := tp3 _ _ hb
      have tk : l2.take (i + 1) = l2.take i ++ [(ds, vv)] := by rw [List.take_add_one, ei]; rfl
      -- held
      refine ⟨_, rfl, a, rfl, ⟨_, SqL.of (S3 _ _ ha)⟩, fun D hD => ?_⟩
      refine comp_val (K := K) (fun i => (ns[i]?).bind fun x => if (decide (x.2.2.2 = gI ds x.2.2.1) && decide (gI ds x.1 ≤ x.2.1)) then some (V.int x.2.2.1) else none) hD (SqL.of (S3 _ _ ha)) (by omega) (fun j v H4 G F hj s4 kG kF => ?_) (fun H4 s4 e4 => ?_)
      · obtain ⟨x, w, ex, rfl, hx⟩ := nts_get dn hj
        obtain ⟨⟨a0, a1⟩, _, ⟨o0, o1⟩, _, _⟩ := ok.2.2 x (List.mem_of_getElem? ex)
        have hx4 := s4 _ _ (S3 _ _ hx)
        have hb4 := s4 _ _ hb3
        refine ⟨_, rfl, _, _, _, _, rfl, rfl, SqT.of hx4, rfl, _, rfl, _, rfl, _, _, _, _, rfl, rfl, SqT.of hx4, rfl, _, _, _, _, rfl, rfl, SqT.of hb4, atI_gI o0 (by omega), rfl, _, rfl, ?_⟩
        by_cases q : x.2.2.2 = gI ds x.2.2.1
        · rw [decide_eq_true (show V.int x.2.2.2 = V.int (gI ds x.2.2.1) by rw [q])]
          refine iteT ?_
          refine ⟨_, rfl, _, _, _, _, rfl, rfl, SqT.of hx4, rfl, _, rfl, _, rfl, _, _, _, _, rfl, rfl, SqT.of hx4, rfl, _, _, _, _, rfl, rfl, SqT.of hb4, atI_gI a0 (by omega), _, _, rfl, rfl, _, rfl, ?_⟩
          by_cases q2 : gI ds x.1 ≤ x.2.1
          · rw [decide_eq_true (show x.2.1 ≥ gI ds x.1 from q2)]
            exact iteT ⟨_, rfl, _, _, _, _, rfl, rfl, SqT.of hx4, rfl, kF _ _ (Same.refl _) (by rw [ex]; simp [q, q2])⟩
          · rw [decide_eq_false (show ¬ x.2.1 ≥ gI ds x.1 from q2)]
            exact iteF (kG _ (Same.refl _) (by rw [ex]; simp [q2]))
        · rw [decide_eq_false (show ¬ V.int x.2.2.2 = V.int (gI ds x.2.2.1) from fun z => q (by injection z))]
          exact iteF (iteF (kG _ (Same.refl _) (by rw [ex]; simp [q])))
      rw [heldJ_fm ns ds _ nvl] at e4
      have S4 := S3.trans s4
      -- the hands
      refine ⟨_, rfl, c, _, rfl, .inl (SqL.of (S4 _ _ hc)), _, rfl, by rw [List.length_map]; omega, by rw [List.length_map]; omega, ?_⟩
      have lnm : (((cs.map V.int).length : Nat) : Int).toNat = cs.length := by simp
      rw [lnm]
      have ngD : g ≠ D := ne_of_none hg3 hD
      refine for_range (lo := 0) (n := cs.length) (fun j σ H5 => ∃ (fl : List (List Int × Nat)) (x3 x4 : Option V), σ = [some (.ref t), some (.ref d), some (.ref c), some (.ref a), some (.ref g), some (.ref b), some (.ref D), x3, x4] ∧ Same H H5 ∧ H5 g = some (.dT (encK fl)) ∧ H5 p = some (.lst zsv) ∧ H5 D = some (.lst ((heldJ ns ds).map V.int)) ∧ (∀ x ys, H1 x = some (.tup ys) → H5 x = some (.tup ys)) ∧ (fl.map (·.1)).Nodup ∧ (∀ ds ∈ fl.map (·.1), DoneOk cs ds ∧ ds.sum = (n + 1 : Nat)) ∧
          wsum fl (cntW cs ns (cs.sum.toNat - n - 1)) = (wsum (l2.take i) fun ds => ((freeH cs ns ds).map fun h => cntW cs ns (cs.sum.toNat - n - 1) (stp ds h)).sum) + vv * ((freeJ cs ns ds j).map fun h => cntW cs ns (cs.sum.toNat - n - 1) (stp ds h)).sum ∧
          (∀ d', d' ∈ fl.map (·.1) ↔ (∃ ds ∈ (l2.take i).map (·.1), ∃ h ∈ freeH cs ns ds, d' = stp ds h) ∨ ∃ h ∈ freeJ cs ns ds j, d' = stp ds h) ∧ fl.length ≤ 8 * i + j)
        ⟨fl, _, _, rfl, S4, s4 _ _ hg3, s4 _ _ hp3, e4, (fun x ys e => s4 _ _ (tp3 x ys e)), nf, fd, by rw [fw]; simp [freeJ], (fun d' => by rw [frk]; simp [freeJ]), by omega⟩ ?_ ?_
      · rintro j σ H5 hj ⟨fl, x3, x4, rfl, S5, hg5, hp5, hD5, tp5, nf, fd, fw, frk, fll⟩
        have ej : (0 : Int) + (j : Int) = (j : Int) := by omega
        rw [ej]
        have hb5 := tp5 _ _ hb
        have fs := freeJ_succ cs ns ds j
        have fh := free_heldJ (ns := ns) (h := (j : Int)) dd (by omega) (by omega)
        refine ⟨_, rfl, _, rfl, _, _, _, _, rfl, rfl, SqT.of hb5, atI_gI (by omega) (by omega), _, rfl, _, rfl, _, _, _, _, rfl, rfl, SqL.of (S5 _ _ hc), atI_gI (by omega) (by omega), _, _, rfl, rfl, _, rfl, ?_⟩
        have out : isFree cs ns ds (j : Int) = false → ∃ (fl : List (List Int × Nat)) (y3 y4 : Option V), ([some (.ref t), some (.ref d), some (.ref c), some (.ref a), some (.ref g), some (.ref b), some (.ref D), some (.int (j : Int)), x4] : St) = [some (.ref t), some (.ref d), some (.ref c), some (.ref a), some (.ref g), some (.ref b), some (.ref D), y3, y4] ∧ Same H H5 ∧ H5 g = some (.dT (encK fl)) ∧ H5 p = some (.lst zsv) ∧ H5 D = some (.lst ((heldJ ns ds).map V.int)) ∧ (∀ x ys, H1 x = some (.tup ys) → H5 x = some (.tup ys)) ∧ (fl.map (·.1)).Nodup ∧ (∀ ds ∈ fl.map (·.1), DoneOk cs ds ∧ ds.sum = (n + 1 : Nat)) ∧
          wsum fl (cntW cs ns (cs.sum.toNat - n - 1)) = (wsum (l2.take i) fun ds => ((freeH cs ns ds).map fun h => cntW cs ns (cs.sum.toNat - n - 1) (stp ds h)).sum) + vv * ((freeJ cs ns ds (j + 1)).map fun h => cntW cs ns (cs.sum.toNat - n - 1) (stp ds h)).sum ∧
          (∀ d', d' ∈ fl.map (·.1) ↔ (∃ ds ∈ (l2.take i).map (·.1), ∃ h ∈ freeH cs ns ds, d' = stp ds h) ∨ ∃ h ∈ freeJ cs ns ds (j + 1), d' = stp ds h) ∧ fl.length ≤ 8 * i + (j + 1) := fun q => by
          rw [q] at fs
          rw [if_neg (by simp), List.append_nil] at fs
          rw [fs]
          exact ⟨fl, _, _, rfl, S5, hg5, hp5, hD5, tp5, nf, fd, fw, frk, by omega⟩
        by_cases lt : gI ds (j : Int) < gI cs (j : Int)
        · rw [decide_eq_true lt]
          refine iteT ?_
          refine ⟨_, rfl, _, rfl, D, _, rfl, .inl (SqL.of hD5), rfl, flat_ints (heldJ ns ds), _, rfl, ?_⟩
          rw [if_pos rfl, in_intsJ]
          by_cases hin : (j : Int) ∈ heldJ ns ds
          · rw [decide_eq_true hin]
            refine iteF (out ?_)
            cases e : isFree cs ns ds (j : Int) with
            | false => rfl
            | true => exact absurd hin (fh.mp e).2
          · rw [decide_eq_false hin]
            refine iteT ?_
            have fr : isFree cs ns ds (j : Int) = true := fh.mpr ⟨lt, hin⟩
            rw [fr] at fs
            rw [if_pos rfl] at fs
            -- after
            refine ⟨_, rfl, c, _, rfl, .inl (SqL.of (S5 _ _ hc)), _, rfl, by rw [List.length_map]; omega, by rw [List.length_map]; omega, fun D2 hD2 => ?_⟩
            rw [lnm]
            refine comp_valR (n := cs.length) (fun k : Nat => some (V.int (gI ds (k : Int) + if decide (V.int (k : Int) = V.int (j : Int)) = true then 1 else 0))) hD2 (by omega) (fun k' H6 G F hk' s6 kG kF => ?_) (fun H6 s6 e6 => ?_)
            · have ek : (0 : Int) + (k' : Int) = (k' : Int) := by omega
              rw [ek]
              exact ⟨_, rfl, _, rfl, _, _, _, _, rfl, rfl, SqT.of (s6 _ _ hb5), atI_gI (by omega) (by omega), _, rfl, _, rfl, rfl, .inr ⟨_, rfl, _, _, rfl, rfl, kF _ _ (Same.refl _) rfl⟩⟩
            rw [stp_fm dl hj] at e6
            refine ⟨D2, _, rfl, .inl ⟨SqL.of e6, fun y hy => ?_⟩⟩
            have s7 := same_new (o := HO.tup ((stp ds (j : Int)).map V.int)) hy
            have s67 := s6.trans s7
            have ey : (upd H6 y (.tup ((stp ds (j : Int)).map V.int))) y = some (.tup ((encI (stp ds (j : Int))).map kV)) := by rw [encI_kV]; exact upd_same
            generalize upd H6 y (.tup ((stp ds (j : Int)).map V.int)) = H7 at s7 s67 ey ⊢
            have hg7 := s67 _ _ hg5
            have hb7 : H7 b = some (.tup ((encI ds).map kV)) := by rw [encI_kV]; exact s67 _ _ hb5
            have hd7 := s67 _ _ (S5 _ _ hd)
            refine ⟨_, rfl, g, rfl, .inr ⟨_, .inl hg7⟩, _, rfl, _, DGet.t (k := encI (stp ds (j : Int))) hg7 ey, ?_⟩
            rw [val_enc]
            refine ⟨_, rfl, _, rfl, d, _, rfl, .inr ⟨_, encI ds, b, .inl hd7, rfl, hb7, hval.symm⟩, _, _, rfl, rfl, _, rfl, _, rfl, g, _, rfl, DPut.t (k := encI (stp ds (j : Int))) hg7 ey ?_, ?_⟩
            · have : i < l2.length := (List.getElem?_eq_some_iff.mp ei).1
              have := lp.length_eq
              unfold encK
              rw [List.length_map, sizeLine_eq]; omega
            rw [put_enc nf]
            have kg : Kp g H7 (upd H7 g (.dT (encK (addP fl (stp ds (j : Int)) vv)))) := Kp.set
            have ngH : H g = none := hg
            refine ⟨addP fl (stp ds (j : Int)) vv, _, _, rfl, fun x u e => kg _ _ (s67 _ _ (S5 _ _ e)) (ne_of_none e ngH), upd_same, kg _ _ (s67 _ _ hp5) ngp.symm, kg _ _ (s67 _ _ hD5) ngD.symm, fun x ys e => kg _ _ (s67 _ _ (tp5 x ys e)) (ne_of (s67 _ _ (tp5 x ys e)) hg7 (fun z => nomatch z)), add_nodup nf _ _, fun ds' hd' => ?_, ?_, fun d' => ?_, ?_⟩
            · rcases add_mem hd' with rfl | hd'
              · exact ⟨stp_ok dd (by omega) (by omega) fr, by rw [stp_sum dd (by omega) (by omega), dsum]; omega⟩
              · exact fd ds' hd'
            · rw [wsum_add, fw, fs, List.map_append, List.sum_append, Nat.mul_add]
              simp only [List.map_cons, List.map_nil, List.sum_cons, List.sum_nil, Nat.add_zero]
              omega
            · rw [add_mem_iff, frk, fs]
              simp only [List.mem_append, List.mem_singleton]
              constructor
              · rintro (h | h | ⟨h', m, e⟩)
                · exact .inr ⟨_, .inr rfl, h⟩
                · exact .inl h
                · exact .inr ⟨h', .inl m, e⟩
              · rintro (h | ⟨h', m | rfl, e⟩)
                · exact .inr (.inl h)
                · exact .inr (.inr ⟨h', m, e⟩)
                · exact .inl e
            · have := add_len fl (stp ds (j : Int)) vv
              omega
        · rw [decide_eq_false lt]
          refine iteF (iteF (out ?_))
          cases e : isFree cs ns ds (j : Int) with
          | false => rfl
          | true => exact absurd (fh.mp e).1 lt
      · rintro σ H5 ⟨fl, x3, x4, rfl, S5, hg5, hp5, hD5, tp5, nf, fd, fw, frk, fll⟩
        have fe : freeJ cs ns ds cs.length = freeH cs ns ds := rfl
        rw [fe] at fw frk
        refine ⟨fl, _, _, _, _, rfl, S5, hg5, hp5, tp5, nf, fd, ?_, fun d' => ?_, by omega⟩
        · rw [fw, tk]
          unfold wsum
          rw [List.map_append, List.sum_append]
          simp
        · rw [frk, tk, List.map_append]
          simp only [List.map_cons, List.map_nil, List.mem_append, List.mem_singleton]
          constructor
          · rintro (⟨es, he, h⟩ | h)
            · exact ⟨es, .inl he, h⟩
            · exact ⟨ds, .inr rfl, h⟩
          · rintro ⟨es, he | rfl, h⟩
            · exact .inl ⟨es, he, h⟩
            · exact .inr h
    · rintro σ H3 ⟨fl, x1, x2, x3, x4, rfl, S3, hg3, hp3, tp3, nf, fd, fw, frk, fll⟩
      have e2 : zsv.length = l2.length := by rw [zl, ← lk, List.length_map]
      rw [e2, List.take_length] at fw frk
      have e3 := lp.length_eq
      refine ⟨_, rfl, k g fl H3 hg hg3 (lyr_next ok.1 L nf fd ?_ fun d' => ?_) (by omega) S3⟩
      · rw [fw]
        exact wsum_perm lp _
      · rw [frk]
        have mm : ∀ ds, ds ∈ l2.map (·.1) ↔ ds ∈ lat.map (·.1) := fun ds => (lp.map _).mem_iff
        constructor
        · rintro ⟨ds, hd, r⟩; exact ⟨ds, (mm ds).mp hd, r⟩
        · rintro ⟨ds, hd, r⟩; exact ⟨ds, (mm ds).mpr hd, r⟩

theorem in_enc {l : List (List Int × Nat)} {k : List Int} : (valV (encK l) (encI k)).isSome = decide (k ∈ l.map (·.1)) := by
  induction l with
  | nil => rfl
  | cons p l ih =>
    unfold encK at ih ⊢
    rw [List.map_cons, List.map_cons]
    by_cases q : p.1 = k
    · rw [decide_eq_true (by rw [q]; simp)]
      unfold valV
      simp [q]
    · have ne : encI p.1 ≠ encI k := fun z => q (encI_inj z)
      have : (k ∈ p.1 :: l.map (·.1)) ↔ k ∈ l.map (·.1) := by
        rw [List.mem_cons]
        exact ⟨fun h => h.elim (fun z => absurd z.symm q) id, .inr⟩
      rw [decide_eq_decide.mpr this, ← ih]
      unfold valV
      simp [ne]
def spCounted (K : PySem.W.Frag) : Sp := fun vs H Q _ => ∃ (t c a : Addr) (cs : List Int) (ns : List Nt), vs = [.ref t] ∧ RecAt H t c a cs ns ∧ RecOk cs ns ∧ ∀ (u : Addr) (ks : List (List Int)) (o : Int) (H' : Hp), H' u = some (.tup [.int (ks.length : Nat), .int o]) → ks.Nodup → (∀ ds ∈ ks, Rch cs ns ds) → (ks.length ≤ 5000 → (∀ ds, Rch cs ns ds → ds ∈ ks) ∧ o = (cntW cs ns cs.sum.toNat (zs cs) : Nat)) → Same H H' → Q (.ref u) H'
theorem ok_counted {f : Addr} {fd : FuncData} (F : Fun K "_law_counted" "_law_counted" s_Lcounted f fd) (F_Llayer : FnAt P w K mg base 1 "_law_layer" ["record", "here"] (spLayer K)) (Bt : Blt mg) : FnOk P w K mg base CX0 2 f fd ["record"] (spCounted K) := by
  refine F.ok sc_Lcounted (fun vs H Q E h => ?_) (fun cdv A outer s H vs Q E hr h => ?_)
  · obtain ⟨t, c, a, cs, ns, rfl, _⟩ := h
    rfl
  · obtain ⟨t, c, a, cs, ns, rfl, R, ok, k⟩ := h
    have hu := hu_of hr
    have hu64 := hr.units
    have c8 := ok.1.1
    have s0 := (zs_ok ok.1).sum
    rw [zs_sum] at s0
    have hsum := sum_le ok.1.2
    refine ⟨_, (pss_cons (ps_set (i := 1) sc_Lcounted.nd rfl (Or.inl rfl) (pe_disp1 (Nat.lt_of_succ_lt hu) (pe_callTy call_tuple_of (by rfl) Bt.b_tuple bt_tuple (pa_cons (pe_op op_rep (pe_lst (pa_cons pe_int pa_nil)) (pe_callB (call_len_seqK (K := K) rfl) (by rfl) Bt.b_len bt_len (pa_cons (pe_ix (ix_tupK (K := K) rfl) (pv 0) pe_int (fun _ _ => rfl)) pa_nil))) pa_nil)) pe_int))
      (pss_cons (ps_set (i := 2) sc_Lcounted.nd rfl (Or.inl rfl) pe_int)
      (pss_cons (ps_for PassesOwn.never rfl (pi_range1 (by rfl) Bt.b_range (pa_cons (pe_callB (call_sumK (K := K) rfl rfl) (by rfl) Bt.b_sum bt_sum (pa_cons (pe_ix (ix_tupK (K := K) rfl) (pv 0) pe_int (fun _ _ => rfl)) pa_nil)) pa_nil)) (pg_name (i := 3) sc_Lcounted.nd rfl (Or.inl rfl))
      (pss_one (ps_if (pt_cmpR op_lt (pv 2) pe_int (nomark _)) (pss_cons (ps_set (i := 1) sc_Lcounted.nd rfl (Or.inl rfl) (pe_fn F_Llayer (hr.mono (by decide)) (by rfl) (pa_cons (pv 0) (pa_cons (pv 1) pa_nil))))
      (pss_one (ps_set (i := 2) sc_Lcounted.nd rfl (Or.inl rfl) (pe_op op_add (pv 2) (pe_callB call_lenT (by rfl) Bt.b_len bt_len (pa_cons (pv 1) pa_nil)))))) pss_nil)))
      (pss_one (ps_ret (pe_tup (pa_cons (pv 2) (pa_cons (pe_ifExp (pt_cmp (pc_din hu (pe_callTy call_tuple_of (by rfl) Bt.b_tuple bt_tuple (pa_cons (pe_ix (ix_tupK (K := K) rfl) (pv 0) pe_int (fun _ _ => rfl)) pa_nil)) (pv 1))) (pe_callB (call_sumV rfl) (by rfl) Bt.b_sum bt_sum (pa_cons (pe_bm0K (K := K) rfl PySem.F.plainAttrs_dict PySem.F.slot_dict_values PySem.F.type_dict_values mt_valsT (pv 1)) pa_nil)) pe_int) pa_nil)))))))), ?_⟩
    intro d hd
    have s1 := same_new (o := HO.dT []) hd
    have hd1 : (upd H d (.dT [])) d = some (.dT []) := upd_same
    generalize upd H d (.dT []) = H1 at s1 hd1 ⊢
    refine ⟨(by show 1 ≤ sizeLine; decide), fun l hl => ?_⟩
    have s2 := same_new (o := HO.lst [V.int 0]) hl
    have hl2 : (upd H1 l (.lst [V.int 0])) l = some (.lst [V.int 0]) := upd_same
    have S2 := s1.trans s2
    have hd2 := s2 _ _ hd1
    generalize upd H1 l (.lst [V.int 0]) = H2 at hl2 S2 hd2 ⊢
    have R2 := R.same S2
    refine ⟨_, rfl, _, _, _, _, rfl, rfl, SqT.of R2.1, rfl, c, _, rfl, .inl (SqL.of R2.2.1), l, _, _, rfl, rfl, hl2, by rw [List.length_map]; omega, by rw [List.length_map]; omega, by rw [List.length_map, sizeLine_eq]; simp; omega, fun p hp => ?_⟩
    have e0 : (List.replicate (((cs.map V.int).length : Nat) : Int).toNat [V.int 0]).flatten = (zs cs).map V.int := by
      rw [rep_zs, List.length_map]; rfl
    rw [e0]
    have s3 := same_new (o := HO.lst ((zs cs).map V.int)) hp
    have hp3 : (upd H2 p (.lst ((zs cs).map V.int))) p = some (.lst ((zs cs).map V.int)) := upd_same
    generalize upd H2 p (.lst ((zs cs).map V.int)) = H3 at s3 hp3 ⊢
    refine ⟨p, _, rfl, .inl ⟨SqL.of hp3, fun q hq => ?_⟩⟩
    have s4 := same_new (o := HO.tup ((zs cs).map V.int)) hq
    have s34 := s3.trans s4
    refine ⟨q, encI (zs cs), rfl, by rw [upd_same, encI_kV], s34 _ _ hd2, ?_⟩
    have S5 : Same H (upd (upd H3 q (.tup ((zs cs).map V.int))) d (.dT [(encI (zs cs), V.int 1)])) := fun b u e => by
      rw [upd_ne (ne_of_none e hd)]
      exact s34 _ _ (S2 _ _ e)
    have hd5 : (upd (upd H3 q (.tup ((zs cs).map V.int))) d (.dT [(encI (zs cs), V.int 1)])) d = some (.dT (encK [(zs cs, 1)])) := upd_same
    generalize upd (upd H3 q (.tup ((zs cs).map V.int))) d (.dT [(encI (zs cs), V.int 1)]) = H5 at S5 hd5 ⊢
    clear s34 s4 hq hp3 s3 e0 hp R2 hl2 s2 hl hd1 s1 hd2 S2
    dsimp only [tNext]
    have R5 := R.same S5
    refine ⟨_, rfl, _, _, _, _, rfl, rfl, SqT.of R5.1, rfl, c, cs, rfl, SqL.of R5.2.1, _, rfl, by omega, by omega, ?_⟩
    refine for_range (lo := 0) (n := cs.sum.toNat) (fun i σ H6 => ∃ (n : Nat) (lat : List (List Int × Nat)) (ks : List (List Int)) (g : Addr) (x1 : Option V), σ = [some (.ref t), some (.ref g), some (.int (ks.length : Nat)), x1] ∧ Same H H6 ∧ H6 g = some (.dT (encK lat)) ∧ Lyr cs ns n lat ∧ ks.Nodup ∧ (∀ ds, ds ∈ ks ↔ Rch cs ns ds ∧ ds.sum ≤ n) ∧ lat.length ≤ ks.length ∧ (n = i ∨ 5001 ≤ ks.length))
      ⟨0, [(zs cs, 1)], [zs cs], d, none, rfl, S5, hd5, lyr0 ok.1, by simp, fun ds => ?_, by simp, .inl rfl⟩ ?_ ?_
    · constructor
      · intro h
        have : ds = zs cs := by simpa using h
        subst this
        exact ⟨.zero, by rw [zs_sum]; omega⟩
      · rintro ⟨r, e⟩
        have := (r.ok ok.1).sum
        have := done_zero (r.ok ok.1) (by omega)
        simp [this]
    · rintro i σ H6 hi ⟨n, lat, ks, g, x1, rfl, S6, hg6, L, nd, hk, ll, hn⟩
      refine ⟨_, rfl, _, _, rfl, rfl, _, rfl, ?_⟩
      by_cases big : ((ks.length : Nat) : Int) < 5001
      · rw [decide_eq_true big]
        refine iteT ?_
        have en : n = i := hn.elim id fun z => by omega
        subst en
        refine ⟨_, rfl, _, rfl, t, c, a, g, cs, ns, n, lat, rfl, R.same S6, ok, hg6, L, by omega, by omega, fun g' fl H7 hg' eg' L' fll s7 => ?_⟩
        refine ⟨_, rfl, _, rfl, g', _, rfl, eg', _, _, rfl, rfl, ?_⟩
        have kl : (encK fl).length = (fl.map (·.1)).length := by unfold encK; rw [List.length_map, List.length_map]
        refine ⟨n + 1, fl, ks ++ fl.map (·.1), g', some (.int (0 + (n : Int))), ?_, S6.trans s7, eg', L', ?_, fun ds => ?_, by rw [List.length_append, List.length_map]; omega, .inl rfl⟩
        · show [some (V.ref t), some (V.ref g'), some (V.int (((ks.length : Nat) : Int) + (((encK fl).length : Nat) : Int))), some (V.int (0 + (n : Int)))] = _
          rw [kl, List.length_append]
          simp
        · refine List.nodup_append.mpr ⟨nd, L'.nl, fun x hx y hy e => ?_⟩
          subst e
          have := ((hk x).mp hx).2
          have := ((L'.lr x).mp hy).2
          omega
        · rw [List.mem_append, hk, L'.lr]
          constructor
          · rintro (⟨r, e⟩ | ⟨r, e⟩)
            · exact ⟨r, by omega⟩
            · exact ⟨r, by omega⟩
          · rintro ⟨r, e⟩
            by_cases q : ds.sum ≤ n
            · exact .inl ⟨r, q⟩
            · exact .inr ⟨r, by omega⟩
      · rw [decide_eq_false big]
        refine iteF ?_
        exact ⟨n, lat, ks, g, _, rfl, S6, hg6, L, nd, hk, ll, .inr (by omega)⟩
    · rintro σ H6 ⟨n, lat, ks, g, x1, rfl, S6, hg6, L, nd, hk, ll, hn⟩
      have R6 := R.same S6
      refine ⟨_, rfl, _, rfl, _, _, _, _, rfl, rfl, SqT.of R6.1, rfl, c, _, rfl, .inl ⟨SqL.of R6.2.1, fun q hq => ?_⟩⟩
      have sq := same_new (o := HO.tup (cs.map V.int)) hq
      have eq : (upd H6 q (.tup (cs.map V.int))) q = some (.tup ((encI cs).map kV)) := by rw [encI_kV]; exact upd_same
      have S7 := S6.trans sq
      have hg7 := sq _ _ hg6
      generalize upd H6 q (.tup (cs.map V.int)) = H7 at eq S7 hg7 ⊢
      refine ⟨_, rfl, g, _, rfl, DGet.t (k := encI cs) hg7 eq, _, rfl, ?_⟩
      rw [in_enc]
      have full : n = cs.sum.toNat → ks.length ≤ 5000 → ∀ ds, Rch cs ns ds → ds ∈ ks := fun e _ ds r => (hk ds).mpr ⟨r, by have := (r.ok ok.1).sum; omega⟩
      have last : n = cs.sum.toNat → _ := fun e => lyr_last L (by omega)
      by_cases q : cs ∈ lat.map (·.1)
      · rw [decide_eq_true q]
        refine iteT ?_
        refine ⟨_, rfl, .inr (.inr (.inl ⟨rfl, .inr ⟨_, hg7⟩⟩)), g, _, rfl, rfl, hg7, fun v hv => ?_⟩
        have sv := same_new (o := ViewO v g) hv
        have kv : (encK lat).map (·.2) = (lat.map fun p => (p.2 : Int)).map V.int := by unfold encK; rw [List.map_map, List.map_map]; rfl
        refine ⟨v, g, _, _, rfl, upd_same, sv _ _ hg7, kv, (by show 2 ≤ sizeLine; decide), fun u hu' => ?_⟩
        have su := same_new (o := HO.tup [V.int (ks.length : Nat), V.int (lat.map fun p => (p.2 : Int)).sum]) hu'
        refine k u ks _ _ upd_same nd (fun ds hd => ((hk ds).mp hd).1) (fun few => ?_) ((S7.trans sv).trans su)
        have e : n = cs.sum.toNat := hn.elim id fun z => by omega
        refine ⟨full e few, ?_⟩
        rw [← (last e).1 q]
        have : ∀ l : List (List Int × Nat), (l.map fun p => (p.2 : Int)).sum = ((l.map (·.2)).sum : Nat) := fun l => by
          induction l with
          | nil => rfl
          | cons p l ih => rw [List.map_cons, List.sum_cons, ih, List.map_cons, List.sum_cons]; omega
        exact this lat
      · rw [decide_eq_false q]
        refine iteF ?_
        refine ⟨(by show 2 ≤ sizeLine; decide), fun u hu' => ?_⟩
        have su := same_new (o := HO.tup [V.int (ks.length : Nat), V.int 0]) hu'
        refine k u ks 0 _ upd_same nd (fun ds hd => ((hk ds).mp hd).1) (fun few => ?_) (S7.trans su)
        have e : n = cs.sum.toNat := hn.elim id fun z => by omega
        exact ⟨full e few, by rw [(last e).2 q]; rfl⟩

/-! ### a wide record -/
section
variable {D r b : Addr} {te : TE} {Q : VK} {rest : St} {H1 : Hp} {n bn : Nat}
theorem comp_drawN (p : Nt → Prop) (hD : H1 D = none) (hB : BagOk H1 r b bn) (hx : n ≤ 100000)
    (hs : ∀ i H (F : VK), i < n → Kp r H1 H → BagOk H r b (bn + 4 * i) → (∀ v x H', Kp r H H' → BagOk H' r b (bn + 4 * i + 4) → Dat H' v (nD x) → p x → F v H') → te (some (.int (0 + i)) :: rest) H F)
    (hd : ∀ H (vs : List V) (xs : List Nt), xs.length = n → (∀ x ∈ xs, p x) → H D = some (.lst vs) → Dats H vs (xs.map nD) → Kp r H1 H → BagOk H r b (bn + 4 * n) → Q (.ref D) H) : CompW (Itr 0 n) (gName 0) tAll te Q D (none :: rest) H1 := by
  obtain ⟨nr, nb⟩ := hB.ne hD
  have mv : ∀ {H : Hp} {o : HO}, Kp r H1 H → Kp r H1 (upd H D o) := fun k c u e m => by rw [upd_ne (ne_of_none e hD)]; exact k c u e m
  refine comp_range (lo := 0) (n := n) (fun i σ H => (∃ v, σ = v :: rest) ∧ ∃ (vs : List V) (xs : List Nt), xs.length = i ∧ (∀ x ∈ xs, p x) ∧ H D = some (.lst vs) ∧ Dats H vs (xs.map nD) ∧ Kp r H1 H ∧ BagOk H r b (bn + 4 * i)) ⟨⟨none, rfl⟩, [], [], rfl, (fun x hx => by cases hx), upd_same, by simp [Dats], .of_same (same_new hD), hB.keep (same_new hD)⟩ ?_ (fun σ H ⟨_, vs, xs, hl, hp, e, d, k, B⟩ => hd H vs xs hl hp e d k B)
  rintro i σ H hi ⟨⟨v, rfl⟩, vs, xs, hl, hp, e, d, k1, B1⟩
  refine hs i H _ hi k1 B1 fun y x H' k2 B2 dy px => ?_
  have vl : vs.length = i := by rw [d.length, List.length_map, hl]
  have e2 := k2 _ _ e nr
  have kp : Kp D H' (upd H' D (.lst (vs ++ [y]))) := Kp.set
  have tp := kp.tups e2
  refine ⟨vs, e2, by rw [sizeLine_eq]; omega, ⟨_, rfl⟩, vs ++ [y], xs ++ [x], by simp [hl], fun z hz => ?_, upd_same, ?_, mv (k1.trans k2), (B2.kp kp nr.symm nb.symm).mono (by omega)⟩
  · rcases List.mem_append.mp hz with hz | hz
    · exact hp z hz
    · rw [List.mem_singleton.mp hz]; exact px
  rw [List.map_append]
  exact dats_snoc (Dats.keep (fun a xs h => tp _ _ (B1.tups k2 _ _ h)) _ (imms_map _ imm_nD _) d) (Dat.keep tp _ (imm_nD x) dy)
end
theorem erase_perm : ∀ (l : List Int) (m : Nat) (h : m < l.length), (l[m] :: l.eraseIdx m).Perm l
  | _ :: _, 0, _ => List.Perm.refl _
  | x :: l, m + 1, h => by
    simp only [List.getElem_cons_succ, List.eraseIdx_cons_succ]
    exact (List.Perm.swap x _ _).trans ((erase_perm l m (by simpa using h)).cons x)
def WdOk (cs : List Int) : Prop := 2 ≤ cs.length ∧ cs.length ≤ 8 ∧ ∀ c ∈ cs, 1 ≤ c ∧ c ≤ 300
theorem WdOk.ok {cs : List Int} (h : WdOk cs) : CsOk cs := ⟨h.2.1, fun c hc => by have := h.2.2 c hc; omega⟩
theorem wd_pos {cs : List Int} (h : WdOk cs) : ¬ (pos cs).length < 2 := by
  have e : pos cs = (List.range cs.length).map fun i : Nat => (i : Int) := by
    unfold pos
    rw [← List.filterMap_eq_map]
    refine fm_congr _ trivial fun i hi => ?_
    have hi' : i < cs.length := by simpa using hi
    have : 0 < gI cs (i : Int) := by
      rw [gI_nat (c := cs[i]) (by simp [hi'])]
      have := h.2.2 cs[i] (by simp)
      omega
    simp [this]
  rw [e, List.length_map, List.length_range]
  have := h.1
  omega
def spWide (K : PySem.W.Frag) : Sp := fun vs H Q _ => ∃ (r b : Addr) (n : Nat), vs = [.ref r] ∧ BagOk H r b n ∧ n < 137438953472 ∧ ∀ (t c a : Addr) (cs : List Int) (ns : List Nt) (H' : Hp), H t = none → H c = none → H a = none → RecAt H' t c a cs ns → RecOk cs ns → BagOk H' r b (n + 4000) → Kp r H H' → c ≠ a → Q (.ref t) H'
def wideL : List (List Int) := [[39, 49], [28, 68], [24, 79], [4, 19, 19], [1, 9, 9, 9], [2, 22, 28], [1, 1, 4, 9, 9], [9, 199], [1, 1, 1, 1, 4, 4, 4], [2, 2, 2, 2, 4, 4]]
theorem wide_ok : ∀ cs ∈ wideL, WdOk cs := by
  intro cs h
  have : ∀ cs ∈ wideL, 2 ≤ cs.length ∧ cs.length ≤ 8 ∧ ∀ c ∈ cs, 1 ≤ c ∧ c ≤ 300 := by decide +kernel
  exact this cs h
theorem ok_wide {f : Addr} {fd : FuncData} (F : Fun K "_law_wide" "_law_wide" s_Lwide f fd) (F_Ldraw : FnAt P w K mg base 2 "_law_draw" ["bag", "many"] (spDraw K)) (F_Lnote : FnAt P w K mg base 3 "_law_note" ["bag", "counts"] (spNote K)) (Bt : Blt mg) : FnOk P w K mg base CX0 4 f fd ["bag"] (spWide K) := by
  refine F.ok sc_Lwide (fun vs H Q E h => ?_) (fun cdv A outer s H vs Q E hr h => ?_)
  · obtain ⟨r, b, n, rfl, _⟩ := h
    rfl
  · obtain ⟨r, b, n, rfl, B0, hn, k⟩ := h
    refine ⟨_, (pss_cons (ps_set (i := 1) sc_Lwide.nd rfl (Or.inl rfl) (pe_fn F_Ldraw (hr.mono (by decide)) (by rfl) (pa_cons (pv 0) (pa_cons pe_int pa_nil))))
      (pss_cons (ps_set (i := 2) sc_Lwide.nd rfl (Or.inl rfl) (pe_fn F_Ldraw (hr.mono (by decide)) (by rfl) (pa_cons (pv 0) (pa_cons pe_int pa_nil))))
      (@pss_cons _ _ _ _ _ (@ps_set _ _ 3 _ _ _ _ sc_Lwide.nd rfl (Or.inr rfl) (@pe_ix _ _ _ _ _ _ _ (ix_listK (K := K) rfl) (@pe_lstLL _ _ _ [[39, 49], [28, 68], [24, 79], [4, 19, 19], [1, 9, 9, 9], [2, 22, 28], [1, 1, 4, 9, 9], [9, 199], [1, 1, 1, 1, 4, 4, 4], [2, 2, 2, 2, 4, 4]] (by decide +kernel)) (pv 1) (fun _ _ => rfl)) (by rfl) (by first | exact Or.inr rfl | exact Or.inl rfl))
      (pss_cons (ps_for PassesOwn.never rfl (pi_range1 (by rfl) Bt.b_range (pa_cons (pe_fn F_Ldraw (hr.mono (by decide)) (by rfl) (pa_cons (pv 0) (pa_cons pe_int pa_nil))) pa_nil)) (pg_name (i := 4) sc_Lwide.nd rfl (Or.inl rfl))
      (pss_one (ps_expr (pe_appendK (K := K) rfl (pv 3) (pa_cons (pe_bmK (K := K) rfl PySem.F.plainAttrs_list PySem.F.slot_list_pop PySem.F.type_list_pop mt_popAt (pv 3) (pa_cons (pe_fn F_Ldraw (hr.mono (by decide)) (by rfl) (pa_cons (pv 0) (pa_cons (pe_callB (call_len_seqK (K := K) rfl) (by rfl) Bt.b_len bt_len (pa_cons (pv 3) pa_nil)) pa_nil))) pa_nil)) pa_nil)))))
      (pss_cons (ps_setC (i := 5) rfl sc_Lwide.nd rfl (Or.inl rfl) (N := ["turn", "bag", "counts"]) (own := ["turn"]) (caps := [0, 3]) (CompScope.of (by kernel_rfl)) (pi_range1 (by rfl) Bt.b_range (pa_cons (pv 2) pa_nil)) (fun _ _ _ _ => (pg_name (i := 0) (show List.Nodup (["turn", "bag", "counts"] : List Str) by decide +kernel) rfl (Or.inl rfl))) (fun _ _ _ _ => pts_nil) (fun _ _ _ _ => (pe_fn F_Lnote (hr.mono (by decide)) (by rfl) (pa_cons (pv 1) (pa_cons (pv 2) pa_nil)))))
      (pss_one (ps_ret (pe_tup (pa_cons (pv 3) (pa_cons (pv 5) pa_nil)))))))))), ?_⟩
    refine ⟨_, rfl, r, b, 10, n, rfl, B0, by omega, by decide, by decide, fun z H1 z0 z1 B1 k1 => ?_⟩
    refine ⟨_, rfl, r, b, 3, _, rfl, B1, by omega, by decide, by decide, fun y H2 y0 y1 B2 k2 => ?_⟩
    have k12 := k1.trans k2
    intro ps H3 N pl
    refine ⟨by rw [List.length_map, pl, sizeLine_eq]; decide, fun W hW => ?_⟩
    change NewL H2 wideL ps H3 at N
    obtain ⟨zn, rfl⟩ := Int.eq_ofNat_of_zero_le z0
    obtain ⟨cs0, ecs⟩ : ∃ cs0, wideL[zn]? = some cs0 := ⟨wideL[zn]'(by show zn < 10; omega), by simp⟩
    obtain ⟨c, ec, fc, hc3⟩ := N.at zn cs0 ecs
    have s3 := N.same
    have s4 := same_new (o := HO.lst (ps.map V.ref)) hW
    have S4 := s3.trans s4
    have hc4 := s4 _ _ hc3
    have B4 := B2.keep S4
    have K4 : Kp r H (upd H3 W (.lst (ps.map V.ref))) := k12.trans (Kp.of_same S4)
    have hW4 : (upd H3 W (.lst (ps.map V.ref))) W = some (.lst (ps.map V.ref)) := upd_same
    generalize upd H3 W (.lst (ps.map V.ref)) = H4 at hc4 B4 K4 hW4 ⊢
    refine ⟨_, rfl, _, _, _, _, rfl, rfl, SqL.of hW4, atI_nat (by rw [List.getElem?_map, ec]; rfl), ?_⟩
    obtain ⟨ncr, ncb⟩ := B2.ne fc
    have fcH : H c = none := by
      cases e : H c with
      | none => rfl
      | some o =>
        have := k12 c o e ncr
        rw [fc] at this
        cases this
    dsimp only [gName]
    -- turned round
    refine seq_cps (fun σ H5 => ∃ (cs : List Int) (x1 : Option V), σ = [some (.ref r), some (.int (zn : Int)), some (.int y), some (.ref c), x1, none] ∧ H5 c = some (.lst (cs.map V.int)) ∧ WdOk cs ∧ BagOk H5 r b (n + 20) ∧ Kp r H H5) (fun D' hD' _ => ?_) ?_
    · refine ⟨_, rfl, r, b, 8, _, rfl, B4, by omega, by decide, by decide, fun m H5 m0 m1 B5 k5 => ⟨m, rfl, by omega, by omega, ?_⟩⟩
      refine for_range (lo := 0) (n := m.toNat) (fun i σ H6 => ∃ (cs : List Int) (x1 : Option V), σ = [some (.ref r), some (.int (zn : Int)), some (.int y), some (.ref c), x1, none] ∧ H6 c = some (.lst (cs.map V.int)) ∧ WdOk cs ∧ BagOk H6 r b (n + 3 + i) ∧ Kp r H H6)
        ⟨cs0, none, rfl, k5 _ _ hc4 ncr, wide_ok cs0 (List.mem_of_getElem? ecs), B5.mono (by omega), K4.trans k5⟩ ?_ ?_
      · rintro i σ H6 hi ⟨cs, x1, rfl, hc6, wd, B6, k6⟩
        have c2 := wd.1
        have c8 := wd.2.1
        refine ⟨_, rfl, .inl ⟨rfl, _, SqL.of hc6⟩, _, rfl, .inl ⟨rfl, _, SqL.of hc6⟩, _, rfl, _, rfl, c, _, rfl, .inl (SqL.of hc6), r, b, _, _, rfl, B6, by omega, by rw [List.length_map]; omega, by rw [List.length_map]; omega, fun q H7 q0 q1 B7 k7 => ?_⟩
        have hc7 := k7 _ _ hc6 ncr
        obtain ⟨qn, rfl⟩ := Int.eq_ofNat_of_zero_le q0
        have ql : qn < cs.length := by rw [List.length_map] at q1; omega
        have si : seqIndex? (qn : Int) (cs.map V.int).length = some qn := by rw [List.length_map, seqIndex_of (by omega) (by omega), Int.toNat_natCast]
        refine ⟨c, _, (qn : Int), qn, V.int cs[qn], rfl, rfl, hc7, by omega, by omega, si, by rw [List.getElem?_map, List.getElem?_eq_getElem ql]; rfl, ?_⟩
        have kc : Kp c H7 (upd H7 c (.lst ((cs.map V.int).eraseIdx qn))) := Kp.set
        refine ⟨c, _, _, rfl, rfl, upd_same, by rw [List.length_eraseIdx, List.length_map, sizeLine_eq]; split <;> omega, ?_⟩
        have ee : (cs.map V.int).eraseIdx qn ++ [V.int cs[qn]] = (cs.eraseIdx qn ++ [cs[qn]]).map V.int := by
          rw [List.map_append, List.eraseIdx_eq_take_drop_succ, List.eraseIdx_eq_take_drop_succ, List.map_append, List.map_take, List.map_drop]; rfl
        refine ⟨cs.eraseIdx qn ++ [cs[qn]], _, rfl, by rw [upd_upd, upd_same, ee], ?_, ?_, ?_⟩
        · have pm : (cs.eraseIdx qn ++ [cs[qn]]).Perm cs := (List.perm_append_comm).trans (erase_perm cs qn ql)
          refine ⟨by rw [pm.length_eq]; exact c2, by rw [pm.length_eq]; exact c8, fun x hx => wd.2.2 x (pm.mem_iff.mp hx)⟩
        · rw [upd_upd]
          exact (B7.kp (Kp.set (r := c)) ncr.symm ncb.symm).mono (by omega)
        · rw [upd_upd]
          exact fun x o e nx => by rw [upd_ne (ne_of_none e fcH)]; exact k7 _ _ (k6 _ _ e nx) nx
      · rintro σ H6 ⟨cs, x1, rfl, hc6, wd, B6, k6⟩
        exact hD' _ _ ⟨cs, x1, rfl, hc6, wd, B6.mono (by omega), k6⟩
    rintro σ H5 ⟨cs, x1, rfl, hc5, wd, B5, k5⟩
    have cok := wd.ok
    -- ties
    refine ⟨_, rfl, y, rfl, by omega, by omega, fun D hD => ?_⟩
    refine comp_drawN (NtOk cs) hD B5 (by omega) (fun i H6 F hi k6 B6 kF => ?_) (fun H6 vs xs xl hx e6 d6 k6 B6 => ?_)
    · refine ⟨_, rfl, _, rfl, r, b, _, c, cs, rfl, B6, by omega, k6 _ _ hc5 ncr, ncr, cok, fun H7 few _ _ => absurd few (wd_pos wd), fun t x H7 _ ht nx B7 k7 => ?_⟩
      exact kF _ x H7 k7 B7 (dat_nt ht) nx
    have ncD : c ≠ D := ne_of_none hc5 hD
    have nDr := (B5.ne hD).1
    have hc6 := k6 _ _ hc5 ncr
    refine ⟨_, rfl, _, rfl, (by show 2 ≤ sizeLine; decide), fun t ht => ?_⟩
    have st := same_new (o := HO.tup [V.ref c, V.ref D]) ht
    have back : ∀ {p : Addr} {Hx : Hp}, Hx p = none → Kp r H Hx → p ≠ r → H p = none := fun {p Hx} e kx nr => by
      cases e' : H p with
      | none => rfl
      | some o =>
        have := kx p o e' nr
        rw [e] at this
        cases this
    have ntr := (B6.ne ht).1
    refine k t c D cs xs _ (back ht (k5.trans k6) ntr) fcH (back hD k5 nDr) ⟨upd_same, st _ _ hc6, vs, st _ _ e6, Dats.keep st.tups _ (imms_map _ imm_nD _) d6⟩ ⟨cok, by omega, hx⟩ ((B6.keep st).mono (by omega)) ((k5.trans k6).trans (Kp.of_same st)) ncD

/-! ### asked, with a bound -/
def spCutsT (K : PySem.W.Frag) : Sp := fun vs H Q _ => ∃ (t c a : Addr) (cs : List Int) (ns : List Nt) (kind limit : Int), vs = [.ref t, .int kind, .int limit] ∧ RecAt H t c a cs ns ∧ RecOk cs ns ∧ 0 ≤ limit ∧ limit ≤ 5000 ∧
  (∀ (ks : List (List Int)) (H' : Hp), ks.Nodup → (∀ ds ∈ ks, Rch cs ns ds) → (if kind = 0 then 2000 else limit) < ks.length → Same H H' → Q .non H') ∧ (∀ (ks : List (List Int)), ks.Nodup → (∀ ds, ds ∈ ks ↔ Rch cs ns ds) → (ks.length : Int) ≤ (if kind = 0 then 2000 else limit) → ∀ H', Same H H' → Q (.int (ks.length : Nat)) H')
theorem ok_cutsT {f : Addr} {fd : FuncData} (F : Fun K "_law_cuts" "_law_cuts" s_Lcuts f fd) {C_TooMany : Addr} (X_TooMany : Xr K mg C_TooMany "TooMany")   (F_how_many_cuts : FnAtX P w K mg base 5 "how_many_cuts" ["record", "most"] (spHmc3 C_TooMany K)) (F_how_many_cuts1 : FnAtD P w K mg base 5 "how_many_cuts" ["record", "most"] [.int 2000] (spHmc3 C_TooMany K)) (F_how_many_cutsK : FnAtK P w K mg base 5 "how_many_cuts" ["record", "most"] "most" (spHmc3 C_TooMany K)) (Bt : Blt mg) : FnOk P w K mg base CX0 6 f fd ["record", "kind", "limit"] (spCutsT K) := by
  refine F.ok sc_Lcuts (fun vs H Q E h => ?_) (fun cdv A outer s H vs Q E hr h => ?_)
  · obtain ⟨t, c, a, cs, ns, kind, limit, rfl, _⟩ := h
    rfl
  · obtain ⟨t, c, a, cs, ns, kind, limit, rfl, R, ok, l0, l5, kN, k⟩ := h
    refine ⟨_, (pss_cons (ps_set (i := 3) sc_Lcuts.nd rfl (Or.inl rfl) pe_non)
      (pss_cons (ps_try0 rfl rfl rfl rfl (by rfl) X_TooMany.bd X_TooMany.hd (fun _ _ _ _ hR => (pss_one (ps_if (pt_cmpR op_eq (pv 1) pe_int (nomark _)) (pss_one (ps_set (i := 3) sc_Lcuts.nd rfl (Or.inl rfl) (pe_fnD F_how_many_cuts1 rfl hR (hr.mono (by decide)) (by rfl) (pa_cons (pv 0) pa_nil)))) (pss_one (ps_if (pt_cmpR op_eq (pv 1) pe_int (nomark _)) (pss_one (ps_set (i := 3) sc_Lcuts.nd rfl (Or.inl rfl) (pe_fnX F_how_many_cuts rfl hR (hr.mono (by decide)) (by rfl) (pa_cons (pv 0) (pa_cons (pv 2) pa_nil))))) (pss_one (ps_set (i := 3) sc_Lcuts.nd rfl (Or.inl rfl) (pe_fnKw F_how_many_cutsK rfl hR (hr.mono (by decide)) (by rfl) (pa_cons (pv 0) pa_nil) (pv 2))))))))) (fun _ => (pss_one (ps_set (i := 3) sc_Lcuts.nd rfl (Or.inl rfl) pe_non))))
      (pss_one (ps_ret (pv 3))))), ?_⟩
    refine ⟨_, rfl, rfl, _, rfl, ?_⟩
    by_cases q : kind = 0
    · subst q
      refine iteT ?_
      exact ⟨_, rfl, t, c, a, cs, ns, 2000, rfl, R, ok, by omega, by omega, fun ks H1 nd hk lt s1 => ⟨_, rfl, exc_self X_TooMany.ex, _, rfl, kN ks H1 nd hk lt s1⟩, fun ks nd hk le H1 s1 => ⟨_, rfl, k ks nd hk le H1 s1⟩⟩
    rw [decide_eq_false (show ¬ V.int kind = V.int 0 from fun z => q (by injection z))]
    rw [if_neg q] at kN k
    refine iteF ?_
    refine ⟨_, rfl, rfl, _, rfl, ite2 (fun _ => ?_) (fun _ => ?_)⟩
    · exact ⟨_, rfl, _, rfl, t, c, a, cs, ns, limit, rfl, R, ok, by omega, by omega, fun ks H1 nd hk lt s1 => ⟨_, rfl, exc_self X_TooMany.ex, _, rfl, kN ks H1 nd hk lt s1⟩, fun ks nd hk le H1 s1 => ⟨_, rfl, k ks nd hk le H1 s1⟩⟩
    · exact ⟨_, rfl, _, rfl, _, rfl, t, c, a, cs, ns, limit, rfl, R, ok, by omega, by omega, fun ks H1 nd hk lt s1 => ⟨_, rfl, exc_self X_TooMany.ex, _, rfl, kN ks H1 nd hk lt s1⟩, fun ks nd hk le H1 s1 => ⟨_, rfl, k ks nd hk le H1 s1⟩⟩
def spOrdsT (K : PySem.W.Frag) : Sp := fun vs H Q _ => ∃ (t c a : Addr) (cs : List Int) (ns : List Nt) (kind limit : Int), vs = [.ref t, .int kind, .int limit] ∧ RecAt H t c a cs ns ∧ RecOk cs ns ∧ 0 ≤ limit ∧ limit ≤ 5000 ∧
  (∀ (ks : List (List Int)) (H' : Hp), ks.Nodup → (∀ ds ∈ ks, Rch cs ns ds) → (if kind = 0 then 2000 else limit) < ks.length → Same H H' → Q .non H') ∧ (∀ (ks : List (List Int)), ks.Nodup → (∀ ds, ds ∈ ks ↔ Rch cs ns ds) → (ks.length : Int) ≤ (if kind = 0 then 2000 else limit) → ∀ H', Same H H' → Q (.int (cntW cs ns cs.sum.toNat (zs cs) : Nat)) H')
theorem ok_ordsT {f : Addr} {fd : FuncData} (F : Fun K "_law_orders" "_law_orders" s_Lorders f fd) {C_TooMany : Addr} (X_TooMany : Xr K mg C_TooMany "TooMany")   (F_how_many_orders : FnAtX P w K mg base 5 "how_many_orders" ["record", "most"] (spHmo3 C_TooMany K)) (F_how_many_orders1 : FnAtD P w K mg base 5 "how_many_orders" ["record", "most"] [.int 2000] (spHmo3 C_TooMany K)) (F_how_many_ordersK : FnAtK P w K mg base 5 "how_many_orders" ["record", "most"] "most" (spHmo3 C_TooMany K)) (Bt : Blt mg) : FnOk P w K mg base CX0 6 f fd ["record", "kind", "limit"] (spOrdsT K) := by
  refine F.ok sc_Lorders (fun vs H Q E h => ?_) (fun cdv A outer s H vs Q E hr h => ?_)
  · obtain ⟨t, c, a, cs, ns, kind, limit, rfl, _⟩ := h
    rfl
  · obtain ⟨t, c, a, cs, ns, kind, limit, rfl, R, ok, l0, l5, kN, k⟩ := h
    refine ⟨_, (pss_cons (ps_set (i := 3) sc_Lorders.nd rfl (Or.inl rfl) pe_non)
      (pss_cons (ps_try0 rfl rfl rfl rfl (by rfl) X_TooMany.bd X_TooMany.hd (fun _ _ _ _ hR => (pss_one (ps_if (pt_cmpR op_eq (pv 1) pe_int (nomark _)) (pss_one (ps_set (i := 3) sc_Lorders.nd rfl (Or.inl rfl) (pe_fnD F_how_many_orders1 rfl hR (hr.mono (by decide)) (by rfl) (pa_cons (pv 0) pa_nil)))) (pss_one (ps_if (pt_cmpR op_eq (pv 1) pe_int (nomark _)) (pss_one (ps_set (i := 3) sc_Lorders.nd rfl (Or.inl rfl) (pe_fnX F_how_many_orders rfl hR (hr.mono (by decide)) (by rfl) (pa_cons (pv 0) (pa_cons (pv 2) pa_nil))))) (pss_one (ps_set (i := 3) sc_Lorders.nd rfl (Or.inl rfl) (pe_fnKw F_how_many_ordersK rfl hR (hr.mono (by decide)) (by rfl) (pa_cons (pv 0) pa_nil) (pv 2))))))))) (fun _ => (pss_one (ps_set (i := 3) sc_Lorders.nd rfl (Or.inl rfl) pe_non))))
      (pss_one (ps_ret (pv 3))))), ?_⟩
    refine ⟨_, rfl, rfl, _, rfl, ?_⟩
    by_cases q : kind = 0
    · subst q
      refine iteT ?_
      exact ⟨_, rfl, t, c, a, cs, ns, 2000, rfl, R, ok, by omega, by omega, fun ks H1 nd hk lt s1 => ⟨_, rfl, exc_self X_TooMany.ex, _, rfl, kN ks H1 nd hk lt s1⟩, fun ks nd hk le H1 s1 => ⟨_, rfl, k ks nd hk le H1 s1⟩⟩
    rw [decide_eq_false (show ¬ V.int kind = V.int 0 from fun z => q (by injection z))]
    rw [if_neg q] at kN k
    refine iteF ?_
    refine ⟨_, rfl, rfl, _, rfl, ite2 (fun _ => ?_) (fun _ => ?_)⟩
    · exact ⟨_, rfl, _, rfl, t, c, a, cs, ns, limit, rfl, R, ok, by omega, by omega, fun ks H1 nd hk lt s1 => ⟨_, rfl, exc_self X_TooMany.ex, _, rfl, kN ks H1 nd hk lt s1⟩, fun ks nd hk le H1 s1 => ⟨_, rfl, k ks nd hk le H1 s1⟩⟩
    · exact ⟨_, rfl, _, rfl, _, rfl, t, c, a, cs, ns, limit, rfl, R, ok, by omega, by omega, fun ks H1 nd hk lt s1 => ⟨_, rfl, exc_self X_TooMany.ex, _, rfl, kN ks H1 nd hk lt s1⟩, fun ks nd hk le H1 s1 => ⟨_, rfl, k ks nd hk le H1 s1⟩⟩
/-- a number, or None -/
def NumN (v : V) : Prop := v = .non ∨ ∃ n : Int, v = .int n
def spIsT (K : PySem.W.Frag) : Sp := fun vs H Q _ => ∃ (v : V), vs = [v, v] ∧ NumN v ∧ Q (.bl true) H
theorem ok_isT {f : Addr} {fd : FuncData} (F : Fun K "_law_is" "_law_is" s_Lis f fd) (Bt : Blt mg) : FnOk P w K mg base CX0 1 f fd ["found", "due"] (spIsT K) := by
  refine F.ok sc_Lis (fun vs H Q E h => ?_) (fun cdv A outer s H vs Q E hr h => ?_)
  · obtain ⟨v, rfl, _⟩ := h
    rfl
  · obtain ⟨v, rfl, nv, k⟩ := h
    have hu64 := hr.units
    refine ⟨_, (pss_cons (ps_if (pt_cmpR op_isN (pv 1) pe_non (nomark _)) (pss_one (ps_ret (pe_cmpR op_isN (pv 0) pe_non (nomark _)))) pss_nil)
      (pss_one (ps_ret (pe_and (pe_callB (call_isiK (K := K) (cv := .ty "int") (c := .type "int") rfl rfl) (by rfl) Bt.b_isinstance bt_isinstance (pa_cons (pv 0) (pa_cons (pe_bltn (v := .ty "int") (by rfl) Bt.b_int bt_int rfl) pa_nil))) (pe_and (pe_not (pe_callB (call_isiK (K := K) (cv := .ty "bool") (c := .type "bool") rfl rfl) (by rfl) Bt.b_isinstance bt_isinstance (pa_cons (pv 0) (pa_cons (pe_bltn (v := .ty "bool") (by rfl) Bt.b_bool bt_bool rfl) pa_nil)))) (pe_one (pe_cmpR op_eq (pv 0) (pv 1) (nomark _)))))))), ?_⟩
    rcases nv with rfl | ⟨n, rfl⟩
    · exact ⟨_, rfl, rfl, _, rfl, iteT ⟨_, rfl, rfl, k⟩⟩
    · refine ⟨_, rfl, rfl, _, rfl, iteF ?_⟩
      dsimp only [tNext]
      refine ⟨_, rfl, _, _, true, rfl, .int n, isi_int_int K, _, rfl, iteT ?_⟩
      refine ⟨_, rfl, _, _, false, rfl, .int n, isi_int_bool K, _, rfl, _, rfl, iteT ?_⟩
      refine ⟨_, rfl, _, rfl, rfl, ?_⟩
      rw [decide_eq_true rfl]
      exact k

/-! ### the law -/
theorem menu4 {m y : Int} (h0 : 1 ≤ y) (h1 : y < 5) : ∃ v : Int, atI [V.int 2000, V.int (m - 1), V.int m, V.int (m + 1)] (y - 1) = some (V.int v) := by
  have : y = 1 ∨ y = 2 ∨ y = 3 ∨ y = 4 := by omega
  rcases this with rfl | rfl | rfl | rfl
  · exact ⟨_, rfl⟩
  · exact ⟨_, rfl⟩
  · exact ⟨_, rfl⟩
  · exact ⟨_, rfl⟩
def spLaw (K : PySem.W.Frag) : Sp := fun vs H Q _ => ∃ (a : Addr) (ns : List Int), vs = [.ref a] ∧ SqL K H a (ns.map V.int) ∧ ns.length ≤ 63 ∧ ∀ H', Q (.bl true) H'
theorem ok_law {f : Addr} {fd : FuncData} (F : Fun K "law" "law" s_law f fd) (F_Lbag : FnAt P w K mg base 1 "_law_bag" ["script"] (spBag K)) (F_Ldraw : FnAt P w K mg base 2 "_law_draw" ["bag", "many"] (spDraw K)) (F_Lwide : FnAt P w K mg base 4 "_law_wide" ["bag"] (spWide K)) (F_Lrecord : FnAt P w K mg base 4 "_law_record" ["bag", "great"] (spRecordD K)) (F_Lcounted : FnAt P w K mg base 2 "_law_counted" ["record"] (spCounted K)) (F_Lcopy : FnAt P w K mg base 1 "_law_copy" ["record"] (spCopy K)) (F_Lcuts : FnAt P w K mg base 6 "_law_cuts" ["record", "kind", "limit"] (spCutsT K)) (F_Lorders : FnAt P w K mg base 6 "_law_orders" ["record", "kind", "limit"] (spOrdsT K)) (F_Lis : FnAt P w K mg base 1 "_law_is" ["found", "due"] (spIsT K)) (Bt : Blt mg) : FnOk P w K mg base CX0 7 f fd ["script"] (spLaw K) := by
  refine F.ok sc_law (fun vs H Q E h => ?_) (fun cdv A outer s H vs Q E hr h => ?_)
  · obtain ⟨a, ns, rfl, _⟩ := h
    rfl
  · obtain ⟨sa, sns, rfl, hS, hlen, k⟩ := h
    have hu64 := hr.units
    refine ⟨_, (pss_cons (ps_set (i := 1) sc_law.nd rfl (Or.inl rfl) (pe_fn F_Lbag (hr.mono (by decide)) (by rfl) (pa_cons (pv 0) pa_nil)))
      (pss_cons (ps_set (i := 2) sc_law.nd rfl (Or.inl rfl) (pe_fn F_Ldraw (hr.mono (by decide)) (by rfl) (pa_cons (pv 1) (pa_cons pe_int pa_nil))))
      (pss_cons (ps_set (i := 3) sc_law.nd rfl (Or.inl rfl) (pe_fn F_Ldraw (hr.mono (by decide)) (by rfl) (pa_cons (pv 1) (pa_cons pe_int pa_nil))))
      (pss_cons (ps_set (i := 4) sc_law.nd rfl (Or.inl rfl) (pe_fn F_Ldraw (hr.mono (by decide)) (by rfl) (pa_cons (pv 1) (pa_cons pe_int pa_nil))))
      (pss_cons (ps_set (i := 5) sc_law.nd rfl (Or.inl rfl) (pe_fn F_Ldraw (hr.mono (by decide)) (by rfl) (pa_cons (pv 1) (pa_cons pe_int pa_nil))))
      (pss_cons (ps_set (i := 6) sc_law.nd rfl (Or.inl rfl) (pe_ifExp (pt_cmpR op_gt (pv 2) pe_int (nomark _)) (pe_fn F_Lwide (hr.mono (by decide)) (by rfl) (pa_cons (pv 1) pa_nil)) (pe_fn F_Lrecord (hr.mono (by decide)) (by rfl) (pa_cons (pv 1) (pa_cons (pe_callTy call_int1 (by rfl) Bt.b_int bt_int (pa_cons (pe_cmpR op_eq (pv 2) pe_int (nomark _)) pa_nil)) pa_nil)))))
      (pss_cons (ps_asg (pe_fn F_Lcounted (hr.mono (by decide)) (by rfl) (pa_cons (pv 6) pa_nil)) (pg_tupK (K := K) (n := 2) rfl rfl (pgs_cons (pg_name (i := 7) sc_law.nd rfl (Or.inl rfl)) (pgs_cons (pg_name (i := 8) sc_law.nd rfl (Or.inl rfl)) pgs_nil))))
      (pss_cons (ps_if (pt_cmpR op_gt (pv 4) pe_int (nomark _)) (pss_one (ps_set (i := 5) sc_law.nd rfl (Or.inl rfl) (pe_callB (call_max2 rfl) (by rfl) Bt.b_max bt_max (pa_cons pe_int (pa_cons (pe_callB (call_min2 rfl) (by rfl) Bt.b_min bt_min (pa_cons pe_int (pa_cons (pe_ix (ix_listK (K := K) rfl) (pe_lst (pa_cons pe_int (pa_cons (pe_op op_sub (pv 7) pe_int) (pa_cons (pv 7) (pa_cons (pe_op op_add (pv 7) pe_int) pa_nil))))) (pe_op op_sub (pv 4) pe_int) (fun _ _ => rfl)) pa_nil))) pa_nil))))) pss_nil)
      (pss_cons (ps_set (i := 9) sc_law.nd rfl (Or.inl rfl) (pe_fn F_Lcopy (hr.mono (by decide)) (by rfl) (pa_cons (pv 6) pa_nil)))
      (pss_cons (ps_set (i := 10) sc_law.nd rfl (Or.inl rfl) (pe_lst (pa_cons pe_non (pa_cons pe_non pa_nil))))
      (pss_cons (ps_if (pt_cmpR op_le (pv 7) (pe_ix (ix_listK (K := K) rfl) (pe_lst (pa_cons (pv 5) (pa_cons pe_int pa_nil))) (pe_callTy call_int1 (by rfl) Bt.b_int bt_int (pa_cons (pe_cmpR op_eq (pv 3) pe_int (nomark _)) pa_nil)) (fun _ _ => rfl)) (nomark _)) (pss_one (ps_set (i := 10) sc_law.nd rfl (Or.inl rfl) (pe_lst (pa_cons (pv 7) (pa_cons (pv 8) pa_nil))))) pss_nil)
      (pss_cons (ps_if (PW.pt (pw_or (pt_not (pt_val (pe_fn F_Lis (hr.mono (by decide)) (by rfl) (pa_cons (pe_fn F_Lcuts (hr.mono (by decide)) (by rfl) (pa_cons (pv 9) (pa_cons (pv 3) (pa_cons (pv 5) pa_nil)))) (pa_cons (pe_ix (ix_listK (K := K) rfl) (pv 10) pe_int (fun _ _ => rfl)) pa_nil))))) (pw_or1 (pt_not (pt_val (pe_fn F_Lis (hr.mono (by decide)) (by rfl) (pa_cons (pe_fn F_Lorders (hr.mono (by decide)) (by rfl) (pa_cons (pv 9) (pa_cons (pv 3) (pa_cons (pv 5) pa_nil)))) (pa_cons (pe_ix (ix_listK (K := K) rfl) (pv 10) pe_int (fun _ _ => rfl)) pa_nil)))))))) (pss_one (ps_ret pe_bl)) pss_nil)
      (pss_one (ps_ret (pe_cmpR (op_eqDK (K := K) rfl hu64) (pv 9) (pv 6) (nomark _)))))))))))))))), ?_⟩
    refine ⟨_, rfl, sa, sns, rfl, hS, hlen, fun r b H1 hr1 hb1 B1 s1 => ?_⟩
    refine ⟨_, rfl, r, b, 8, 0, rfl, B1, by decide, by decide, by decide, fun z H2 z0 z1 B2 k2 => ?_⟩
    refine ⟨_, rfl, r, b, 3, 1, rfl, B2, by decide, by decide, by decide, fun kd H3 kd0 kd1 B3 k3 => ?_⟩
    refine ⟨_, rfl, r, b, 5, 2, rfl, B3, by decide, by decide, by decide, fun y H4 y0 y1 B4 k4 => ?_⟩
    refine ⟨_, rfl, r, b, 5001, 3, rfl, B4, by decide, by decide, by decide, fun lm H5 lm0 lm1 B5 k5 => ?_⟩
    dsimp only [gName]
    refine seq_cps (fun σ H6 => ∃ (t c a : Addr) (cs : List Int) (ns : List Nt), σ = [some (.ref sa), some (.ref r), some (.int z), some (.int kd), some (.int y), some (.int lm), some (.ref t), none, none, none, none] ∧ RecAt H6 t c a cs ns ∧ RecOk cs ns) (fun D' hD' _ => ?_) ?_
    · refine ⟨_, rfl, _, _, rfl, rfl, _, rfl, ite2 (fun _ => ?_) (fun _ => ?_)⟩
      · exact ⟨_, rfl, r, b, _, rfl, B5, by decide, fun t c a cs ns H6 _ _ _ R6 ok6 _ _ _ => hD' _ _ ⟨t, c, a, cs, ns, rfl, R6, ok6⟩⟩
      · refine ⟨_, rfl, _, rfl, rfl, .inr ⟨_, rfl, r, b, _, _, rfl, ?_, B5, by decide, fun t c a cs ns H6 _ _ _ R6 ok6 _ _ _ _ _ => hD' _ _ ⟨t, c, a, cs, ns, rfl, R6, ok6⟩⟩⟩
        by_cases q : z = 4
        · exact .inr (by simp [q])
        · exact .inl (by simp [q])
    rintro σ H6 ⟨t, c, a, cs, ns, rfl, R6, ok⟩
    refine ⟨_, rfl, t, c, a, cs, ns, rfl, R6, ok, fun u ks o H7 eu nd hk few s7 => ?_⟩
    refine ⟨u, _, rfl, SqT.of eu, rfl, _, _, rfl, _, _, rfl, rfl, ?_⟩
    have R7 := R6.same s7
    dsimp only [tNext]
    -- the bound
    refine seq_cps (fun σ H8 => ∃ (lim : Int), σ = [some (.ref sa), some (.ref r), some (.int z), some (.int kd), some (.int y), some (.int lim), some (.ref t), some (.int (ks.length : Nat)), some (.int o), none, none] ∧ 0 ≤ lim ∧ lim ≤ 5000 ∧ RecAt H8 t c a cs ns) (fun D' hD' _ => ?_) ?_
    · refine ⟨_, rfl, _, _, rfl, rfl, _, rfl, ite2 (fun q => ?_) (fun _ => ?_)⟩
      · have q := of_decide_eq_true q
        refine ⟨_, rfl, _, _, rfl, rfl, _, rfl, _, rfl, _, _, rfl, rfl, (by show 4 ≤ sizeLine; decide), fun p hp => ?_⟩
        obtain ⟨v, ev⟩ := menu4 (m := (ks.length : Nat)) (y := y) (by omega) y1
        refine ⟨_, rfl, _, _, rfl, rfl, _, _, _, _, rfl, rfl, SqL.of upd_same, ev, _, _, rfl, _, _, rfl, ?_⟩
        refine hD' _ _ ⟨_, rfl, ?_, ?_, R7.same (same_new hp)⟩
        · split <;> omega
        · split <;> (try split) <;> omega
      · exact hD' _ _ ⟨lm, rfl, lm0, by omega, R7⟩
    rintro σ H8 ⟨lim, rfl, l0, l5, R8⟩
    refine ⟨_, rfl, t, c, a, cs, ns, rfl, R8, fun t' c' a' H9 _ _ _ R9' s9 => ?_⟩
    have R9 := R8.same s9
    refine ⟨(by show 2 ≤ sizeLine; decide), fun dd hdd => ?_⟩
    have s10 := same_new (o := HO.lst [V.non, V.non]) hdd
    have hd10 : (upd H9 dd (.lst [V.non, V.non])) dd = some (.lst [V.non, V.non]) := upd_same
    have R10 := R9.same s10
    have R10' := R9'.same s10
    generalize upd H9 dd (.lst [V.non, V.non]) = H10 at hd10 R10 R10' ⊢
    have hm : ∀ {b : Bool}, atI [V.int lim, V.int 2000] (if b = true then 1 else 0) = some (V.int (if b = true then 2000 else lim)) := fun {b} => by cases b <;> rfl
    dsimp only [gName]
    refine seq_cps (fun σ H11 => ∃ (g : Addr) (d0 d1 : V), σ = [some (.ref sa), some (.ref r), some (.int z), some (.int kd), some (.int y), some (.int lim), some (.ref t), some (.int (ks.length : Nat)), some (.int o), some (.ref t'), some (.ref g)] ∧ H11 g = some (.lst [d0, d1]) ∧ RecAt H11 t c a cs ns ∧ RecAt H11 t' c' a' cs ns ∧ (((ks.length : Int) ≤ (if kd = 0 then 2000 else lim) ∧ d0 = .int (ks.length : Nat) ∧ d1 = .int o) ∨ ((if kd = 0 then 2000 else lim) < (ks.length : Int) ∧ d0 = .non ∧ d1 = .non))) (fun D' hD' _ => ?_) ?_
    · refine ⟨_, rfl, _, rfl, (by show 2 ≤ sizeLine; decide), fun q hq => ?_⟩
      have sq := same_new (o := HO.lst [V.int lim, V.int 2000]) hq
      have hq1 : (upd H10 q (.lst [V.int lim, V.int 2000])) q = some (.lst [V.int lim, V.int 2000]) := upd_same
      have hd11 := sq _ _ hd10
      have R11 := R10.same sq
      have R11' := R10'.same sq
      generalize upd H10 q (.lst [V.int lim, V.int 2000]) = H11 at hq1 hd11 R11 R11' ⊢
      refine ⟨_, rfl, rfl, .inr ⟨_, rfl, _, _, _, _, rfl, rfl, SqL.of hq1, hm, _, _, rfl, rfl, _, rfl, ?_⟩⟩
      have ek : (if decide (V.int kd = V.int 0) = true then (2000 : Int) else lim) = if kd = 0 then 2000 else lim := by
        by_cases q : kd = 0
        · subst q; rfl
        · rw [if_neg q, if_neg (by rw [decide_eq_false fun z => q (by injection z)]; simp)]
      rw [ek]
      by_cases le : ((ks.length : Nat) : Int) ≤ if kd = 0 then 2000 else lim
      · rw [decide_eq_true le]
        refine iteT ?_
        refine ⟨_, rfl, _, rfl, (by show 2 ≤ sizeLine; decide), fun g hg => ?_⟩
        have sg := same_new (o := HO.lst [V.int (ks.length : Nat), V.int o]) hg
        exact hD' _ _ ⟨g, _, _, rfl, upd_same, R11.same sg, R11'.same sg, .inl ⟨le, rfl, rfl⟩⟩
      · rw [decide_eq_false le]
        refine iteF ?_
        exact hD' _ _ ⟨dd, _, _, rfl, hd11, R11, R11', .inr ⟨by omega, rfl, rfl⟩⟩
    rintro σ H11 ⟨g, d0, d1, rfl, hg11, R11, R11', hcase⟩
    have m5 : (if kd = 0 then (2000 : Int) else lim) ≤ 5000 := by split <;> omega
    have fin : ∀ {H' : Hp}, Same H11 H' → (if true = true then !PyData.eqv (rD cs ns) (rD cs ns) else PyData.eqv (rD cs ns) (rD cs ns)) = false := fun _ => by rw [if_pos rfl, eqv_rec, decide_eq_true rfl, decide_eq_true rfl]; rfl
    rcases hcase with ⟨le, rfl, rfl⟩ | ⟨gt, rfl, rfl⟩
    · obtain ⟨all, eo⟩ := few (by omega)
      subst eo
      have no : ∀ {ks' : List (List Int)}, ks'.Nodup → (∀ ds ∈ ks', Rch cs ns ds) → (if kd = 0 then (2000 : Int) else lim) < ks'.length → False := fun nd' hk' lt => by
        have := sub_len nd' fun x hx => all x (hk' x hx)
        omega
      refine ⟨_, rfl, _, rfl, _, rfl, t', c', a', cs, ns, kd, lim, rfl, R11', ok, l0, l5, fun ks' H12 nd' hk' lt s12 => (no nd' hk' lt).elim, fun ks' nd' hk' _ H12 s12 => ?_⟩
      have e1 : ks'.length = ks.length := Nat.le_antisymm (sub_len nd' fun x hx => all x ((hk' x).mp hx)) (sub_len nd fun x hx => (hk' x).mpr (hk x hx))
      rw [e1]
      refine ⟨_, rfl, _, _, _, _, rfl, rfl, SqL.of (s12 _ _ hg11), rfl, _, rfl, .inr ⟨_, rfl⟩, _, rfl, iteF ?_⟩
      refine ⟨_, rfl, _, rfl, _, rfl, t', c', a', cs, ns, kd, lim, rfl, R11'.same s12, ok, l0, l5, fun ks' H13 nd' hk' lt s13 => (no nd' hk' lt).elim, fun ks' nd' hk' _ H13 s13 => ?_⟩
      have s13' := s12.trans s13
      refine ⟨_, rfl, _, _, _, _, rfl, rfl, SqL.of (s13' _ _ hg11), rfl, _, rfl, .inr ⟨_, rfl⟩, _, rfl, iteF ?_⟩
      dsimp only [tNext]
      refine ⟨_, rfl, _, rfl, _, _, dat_rec (R11'.same s13'), dat_rec (R11.same s13'), shaped_rec _ _, shaped_rec _ _, ?_⟩
      rw [if_neg Bool.false_ne_true, eqv_rec, decide_eq_true rfl, decide_eq_true rfl]
      exact k _
    · have no : ∀ {ks' : List (List Int)}, (∀ ds, ds ∈ ks' ↔ Rch cs ns ds) → (ks'.length : Int) ≤ (if kd = 0 then (2000 : Int) else lim) → False := fun hk' le => by
        have := sub_len nd fun x hx => (hk' x).mpr (hk x hx)
        omega
      refine ⟨_, rfl, _, rfl, _, rfl, t', c', a', cs, ns, kd, lim, rfl, R11', ok, l0, l5, fun ks' H12 nd' hk' lt s12 => ?_, fun ks' nd' hk' le _ _ => (no hk' le).elim⟩
      refine ⟨_, rfl, _, _, _, _, rfl, rfl, SqL.of (s12 _ _ hg11), rfl, _, rfl, .inl rfl, _, rfl, iteF ?_⟩
      refine ⟨_, rfl, _, rfl, _, rfl, t', c', a', cs, ns, kd, lim, rfl, R11'.same s12, ok, l0, l5, fun ks' H13 nd' hk' lt s13 => ?_, fun ks' nd' hk' le _ _ => (no hk' le).elim⟩
      have s13' := s12.trans s13
      refine ⟨_, rfl, _, _, _, _, rfl, rfl, SqL.of (s13' _ _ hg11), rfl, _, rfl, .inl rfl, _, rfl, iteF ?_⟩
      dsimp only [tNext]
      refine ⟨_, rfl, _, rfl, _, _, dat_rec (R11'.same s13'), dat_rec (R11.same s13'), shaped_rec _ _, shaped_rec _ _, ?_⟩
      rw [if_neg Bool.false_ne_true, eqv_rec, decide_eq_true rfl, decide_eq_true rfl]
      exact k _

end
theorem len0 {us : List Value} (h : us.length = 0) : us = [] := List.eq_nil_of_length_eq_zero h
theorem lenS {us : List Value} {n : Nat} (h : us.length = n + 1) : ∃ a vs, us = a :: vs ∧ vs.length = n := by
  cases us with
  | nil => cases h
  | cons a t => exact ⟨a, t, rfl, Nat.succ.inj h⟩
theorem bi_Lbag (kV doc pm : Value) (an : Option Addr) (cdv ct : Value) (us : List Value) (hl : us.length = (["script"] : List Str).length) : bindArgs (PySem.W.fnOf "_law_bag" "_law_bag" (defArgs s_Lbag) (defBody s_Lbag) (defScope s_Lbag) .none kV doc pm an cdv ct) ⟨us, []⟩ = pure ((["script"] : List Str).zip us) := by obtain ⟨_, _, rfl, h1⟩ := lenS hl; cases len0 h1; rfl
theorem bi_Lstir (kV doc pm : Value) (an : Option Addr) (cdv ct : Value) (us : List Value) (hl : us.length = (["number", "place"] : List Str).length) : bindArgs (PySem.W.fnOf "_law_stir" "_law_stir" (defArgs s_Lstir) (defBody s_Lstir) (defScope s_Lstir) .none kV doc pm an cdv ct) ⟨us, []⟩ = pure ((["number", "place"] : List Str).zip us) := by obtain ⟨_, _, rfl, h1⟩ := lenS hl; obtain ⟨_, _, rfl, h2⟩ := lenS h1; cases len0 h2; rfl
theorem bi_Ldraw (kV doc pm : Value) (an : Option Addr) (cdv ct : Value) (us : List Value) (hl : us.length = (["bag", "many"] : List Str).length) : bindArgs (PySem.W.fnOf "_law_draw" "_law_draw" (defArgs s_Ldraw) (defBody s_Ldraw) (defScope s_Ldraw) .none kV doc pm an cdv ct) ⟨us, []⟩ = pure ((["bag", "many"] : List Str).zip us) := by obtain ⟨_, _, rfl, h1⟩ := lenS hl; obtain ⟨_, _, rfl, h2⟩ := lenS h1; cases len0 h2; rfl
theorem bi_Lcounts (kV doc pm : Value) (an : Option Addr) (cdv ct : Value) (us : List Value) (hl : us.length = (["bag", "great"] : List Str).length) : bindArgs (PySem.W.fnOf "_law_counts" "_law_counts" (defArgs s_Lcounts) (defBody s_Lcounts) (defScope s_Lcounts) .none kV doc pm an cdv ct) ⟨us, []⟩ = pure ((["bag", "great"] : List Str).zip us) := by obtain ⟨_, _, rfl, h1⟩ := lenS hl; obtain ⟨_, _, rfl, h2⟩ := lenS h1; cases len0 h2; rfl
theorem bi_Lorder (kV doc pm : Value) (an : Option Addr) (cdv ct : Value) (us : List Value) (hl : us.length = (["bag", "counts"] : List Str).length) : bindArgs (PySem.W.fnOf "_law_order" "_law_order" (defArgs s_Lorder) (defBody s_Lorder) (defScope s_Lorder) .none kV doc pm an cdv ct) ⟨us, []⟩ = pure ((["bag", "counts"] : List Str).zip us) := by obtain ⟨_, _, rfl, h1⟩ := lenS hl; obtain ⟨_, _, rfl, h2⟩ := lenS h1; cases len0 h2; rfl
theorem bi_Lspots (kV doc pm : Value) (an : Option Addr) (cdv ct : Value) (us : List Value) (hl : us.length = (["order"] : List Str).length) : bindArgs (PySem.W.fnOf "_law_spots" "_law_spots" (defArgs s_Lspots) (defBody s_Lspots) (defScope s_Lspots) .none kV doc pm an cdv ct) ⟨us, []⟩ = pure ((["order"] : List Str).zip us) := by obtain ⟨_, _, rfl, h1⟩ := lenS hl; cases len0 h1; rfl
theorem bi_Lnote (kV doc pm : Value) (an : Option Addr) (cdv ct : Value) (us : List Value) (hl : us.length = (["bag", "counts"] : List Str).length) : bindArgs (PySem.W.fnOf "_law_note" "_law_note" (defArgs s_Lnote) (defBody s_Lnote) (defScope s_Lnote) .none kV doc pm an cdv ct) ⟨us, []⟩ = pure ((["bag", "counts"] : List Str).zip us) := by obtain ⟨_, _, rfl, h1⟩ := lenS hl; obtain ⟨_, _, rfl, h2⟩ := lenS h1; cases len0 h2; rfl
theorem bi_Lrecord (kV doc pm : Value) (an : Option Addr) (cdv ct : Value) (us : List Value) (hl : us.length = (["bag", "great"] : List Str).length) : bindArgs (PySem.W.fnOf "_law_record" "_law_record" (defArgs s_Lrecord) (defBody s_Lrecord) (defScope s_Lrecord) .none kV doc pm an cdv ct) ⟨us, []⟩ = pure ((["bag", "great"] : List Str).zip us) := by obtain ⟨_, _, rfl, h1⟩ := lenS hl; obtain ⟨_, _, rfl, h2⟩ := lenS h1; cases len0 h2; rfl
theorem bi_Lcopy (kV doc pm : Value) (an : Option Addr) (cdv ct : Value) (us : List Value) (hl : us.length = (["record"] : List Str).length) : bindArgs (PySem.W.fnOf "_law_copy" "_law_copy" (defArgs s_Lcopy) (defBody s_Lcopy) (defScope s_Lcopy) .none kV doc pm an cdv ct) ⟨us, []⟩ = pure ((["record"] : List Str).zip us) := by obtain ⟨_, _, rfl, h1⟩ := lenS hl; cases len0 h1; rfl
theorem bi_is_whole (kV doc pm : Value) (an : Option Addr) (cdv ct : Value) (us : List Value) (hl : us.length = (["value"] : List Str).length) : bindArgs (PySem.W.fnOf "is_whole" "is_whole" (defArgs s_is_whole) (defBody s_is_whole) (defScope s_is_whole) .none kV doc pm an cdv ct) ⟨us, []⟩ = pure ((["value"] : List Str).zip us) := by obtain ⟨_, _, rfl, h1⟩ := lenS hl; cases len0 h1; rfl
theorem bi_is_below (kV doc pm : Value) (an : Option Addr) (cdv ct : Value) (us : List Value) (hl : us.length = (["value", "count"] : List Str).length) : bindArgs (PySem.W.fnOf "is_below" "is_below" (defArgs s_is_below) (defBody s_is_below) (defScope s_is_below) .none kV doc pm an cdv ct) ⟨us, []⟩ = pure ((["value", "count"] : List Str).zip us) := by obtain ⟨_, _, rfl, h1⟩ := lenS hl; obtain ⟨_, _, rfl, h2⟩ := lenS h1; cases len0 h2; rfl
theorem bi_is_note (kV doc pm : Value) (an : Option Addr) (cdv ct : Value) (us : List Value) (hl : us.length = (["value"] : List Str).length) : bindArgs (PySem.W.fnOf "is_note" "is_note" (defArgs s_is_note) (defBody s_is_note) (defScope s_is_note) .none kV doc pm an cdv ct) ⟨us, []⟩ = pure ((["value"] : List Str).zip us) := by obtain ⟨_, _, rfl, h1⟩ := lenS hl; cases len0 h1; rfl
theorem bi_is_between (kV doc pm : Value) (an : Option Addr) (cdv ct : Value) (us : List Value) (hl : us.length = (["counts", "note"] : List Str).length) : bindArgs (PySem.W.fnOf "is_between" "is_between" (defArgs s_is_between) (defBody s_is_between) (defScope s_is_between) .none kV doc pm an cdv ct) ⟨us, []⟩ = pure ((["counts", "note"] : List Str).zip us) := by obtain ⟨_, _, rfl, h1⟩ := lenS hl; obtain ⟨_, _, rfl, h2⟩ := lenS h1; cases len0 h2; rfl
theorem bi_check_notes (kV doc pm : Value) (an : Option Addr) (cdv ct : Value) (us : List Value) (hl : us.length = (["record"] : List Str).length) : bindArgs (PySem.W.fnOf "check_notes" "check_notes" (defArgs s_check_notes) (defBody s_check_notes) (defScope s_check_notes) .none kV doc pm an cdv ct) ⟨us, []⟩ = pure ((["record"] : List Str).zip us) := by obtain ⟨_, _, rfl, h1⟩ := lenS hl; cases len0 h1; rfl
theorem bi_has (kV doc pm : Value) (an : Option Addr) (cdv ct : Value) (us : List Value) (hl : us.length = (["done", "touch"] : List Str).length) : bindArgs (PySem.W.fnOf "has" "has" (defArgs s_has) (defBody s_has) (defScope s_has) .none kV doc pm an cdv ct) ⟨us, []⟩ = pure ((["done", "touch"] : List Str).zip us) := by obtain ⟨_, _, rfl, h1⟩ := lenS hl; obtain ⟨_, _, rfl, h2⟩ := lenS h1; cases len0 h2; rfl
theorem bi_firsts_of (kV doc pm : Value) (an : Option Addr) (cdv ct : Value) (us : List Value) (hl : us.length = (["record"] : List Str).length) : bindArgs (PySem.W.fnOf "firsts_of" "firsts_of" (defArgs s_firsts_of) (defBody s_firsts_of) (defScope s_firsts_of) .none kV doc pm an cdv ct) ⟨us, []⟩ = pure ((["record"] : List Str).zip us) := by obtain ⟨_, _, rfl, h1⟩ := lenS hl; cases len0 h1; rfl
theorem bi_is_free (kV doc pm : Value) (an : Option Addr) (cdv ct : Value) (us : List Value) (hl : us.length = (["counts", "firsts", "done", "hand"] : List Str).length) : bindArgs (PySem.W.fnOf "is_free" "is_free" (defArgs s_is_free) (defBody s_is_free) (defScope s_is_free) .none kV doc pm an cdv ct) ⟨us, []⟩ = pure ((["counts", "firsts", "done", "hand"] : List Str).zip us) := by obtain ⟨_, _, rfl, h1⟩ := lenS hl; obtain ⟨_, _, rfl, h2⟩ := lenS h1; obtain ⟨_, _, rfl, h3⟩ := lenS h2; obtain ⟨_, _, rfl, h4⟩ := lenS h3; cases len0 h4; rfl
theorem bi_free_hands (kV doc pm : Value) (an : Option Addr) (cdv ct : Value) (us : List Value) (hl : us.length = (["counts", "firsts", "done"] : List Str).length) : bindArgs (PySem.W.fnOf "free_hands" "free_hands" (defArgs s_free_hands) (defBody s_free_hands) (defScope s_free_hands) .none kV doc pm an cdv ct) ⟨us, []⟩ = pure ((["counts", "firsts", "done"] : List Str).zip us) := by obtain ⟨_, _, rfl, h1⟩ := lenS hl; obtain ⟨_, _, rfl, h2⟩ := lenS h1; obtain ⟨_, _, rfl, h3⟩ := lenS h2; cases len0 h3; rfl
theorem bi_ways_to_cuts (kV doc pm : Value) (an : Option Addr) (cdv ct : Value) (us : List Value) (hl : us.length = (["record", "most"] : List Str).length) : bindArgs (PySem.W.fnOf "ways_to_cuts" "ways_to_cuts" (defArgs s_ways_to_cuts) (defBody s_ways_to_cuts) (defScope s_ways_to_cuts) .none kV doc pm an cdv ct) ⟨us, []⟩ = pure ((["record", "most"] : List Str).zip us) := by obtain ⟨_, _, rfl, h1⟩ := lenS hl; obtain ⟨_, _, rfl, h2⟩ := lenS h1; cases len0 h2; rfl
theorem bd0_how_many_cuts {tk : Tok} {K : PySem.W.Frag} {T : Addr} {tc : Value} {td : Option Addr} {tn : Nat} {tsl : Array (Option Value)} (d : K.lookup T = some ⟨tc, td, .seq #[.int 2000 tk] tn, tsl⟩) {kV doc pm : Value} {an : Option Addr} {cdv ct : Value} : Binds K (PySem.W.fnOf "how_many_cuts" "how_many_cuts" (defArgs s_how_many_cuts) (defBody s_how_many_cuts) (defScope s_how_many_cuts) (.ref T) kV doc pm an cdv ct) ["record", "most"] [] := by
  intro s us KX hl
  have hl : us.length = 2 := by simpa using hl
  obtain ⟨_, _, rfl, h1⟩ := lenS hl; obtain ⟨_, _, rfl, h2⟩ := lenS h1; cases len0 h2
  exact PySem.W.binds_K KX rfl d rfl rfl rfl
theorem bd1_how_many_cuts {tk : Tok} {K : PySem.W.Frag} {T : Addr} {tc : Value} {td : Option Addr} {tn : Nat} {tsl : Array (Option Value)} (d : K.lookup T = some ⟨tc, td, .seq #[.int 2000 tk] tn, tsl⟩) {kV doc pm : Value} {an : Option Addr} {cdv ct : Value} : Binds K (PySem.W.fnOf "how_many_cuts" "how_many_cuts" (defArgs s_how_many_cuts) (defBody s_how_many_cuts) (defScope s_how_many_cuts) (.ref T) kV doc pm an cdv ct) ["record", "most"] [.int 2000 tk] := by
  intro s us KX hl
  have hl : us.length = 1 := by simpa using hl
  obtain ⟨_, _, rfl, h1⟩ := lenS hl; cases len0 h1
  exact PySem.W.binds_K KX rfl d rfl rfl rfl
theorem bdK_how_many_cuts {tk : Tok} {K : PySem.W.Frag} {T : Addr} {tc : Value} {td : Option Addr} {tn : Nat} {tsl : Array (Option Value)} (d : K.lookup T = some ⟨tc, td, .seq #[.int 2000 tk] tn, tsl⟩) {kV doc pm : Value} {an : Option Addr} {cdv ct : Value} (s : Shared) (us : List Value) (z : Value) (KX : K.In s.heap) (hl : (us ++ [z]).length = (["record", "most"] : List Str).length) : BindsTo s (PySem.W.fnOf "how_many_cuts" "how_many_cuts" (defArgs s_how_many_cuts) (defBody s_how_many_cuts) (defScope s_how_many_cuts) (.ref T) kV doc pm an cdv ct) ⟨us, [("most", z)]⟩ ((["record", "most"] : List Str).zip (us ++ [z])) := by
  have hl : us.length = 1 := by simpa using hl
  obtain ⟨_, _, rfl, h1⟩ := lenS hl; cases len0 h1
  exact PySem.W.binds_K KX rfl d rfl rfl rfl
theorem bd0_how_many_orders {tk : Tok} {K : PySem.W.Frag} {T : Addr} {tc : Value} {td : Option Addr} {tn : Nat} {tsl : Array (Option Value)} (d : K.lookup T = some ⟨tc, td, .seq #[.int 2000 tk] tn, tsl⟩) {kV doc pm : Value} {an : Option Addr} {cdv ct : Value} : Binds K (PySem.W.fnOf "how_many_orders" "how_many_orders" (defArgs s_how_many_orders) (defBody s_how_many_orders) (defScope s_how_many_orders) (.ref T) kV doc pm an cdv ct) ["record", "most"] [] := by
  intro s us KX hl
  have hl : us.length = 2 := by simpa using hl
  obtain ⟨_, _, rfl, h1⟩ := lenS hl; obtain ⟨_, _, rfl, h2⟩ := lenS h1; cases len0 h2
  exact PySem.W.binds_K KX rfl d rfl rfl rfl
theorem bd1_how_many_orders {tk : Tok} {K : PySem.W.Frag} {T : Addr} {tc : Value} {td : Option Addr} {tn : Nat} {tsl : Array (Option Value)} (d : K.lookup T = some ⟨tc, td, .seq #[.int 2000 tk] tn, tsl⟩) {kV doc pm : Value} {an : Option Addr} {cdv ct : Value} : Binds K (PySem.W.fnOf "how_many_orders" "how_many_orders" (defArgs s_how_many_orders) (defBody s_how_many_orders) (defScope s_how_many_orders) (.ref T) kV doc pm an cdv ct) ["record", "most"] [.int 2000 tk] := by
  intro s us KX hl
  have hl : us.length = 1 := by simpa using hl
  obtain ⟨_, _, rfl, h1⟩ := lenS hl; cases len0 h1
  exact PySem.W.binds_K KX rfl d rfl rfl rfl
theorem bdK_how_many_orders {tk : Tok} {K : PySem.W.Frag} {T : Addr} {tc : Value} {td : Option Addr} {tn : Nat} {tsl : Array (Option Value)} (d : K.lookup T = some ⟨tc, td, .seq #[.int 2000 tk] tn, tsl⟩) {kV doc pm : Value} {an : Option Addr} {cdv ct : Value} (s : Shared) (us : List Value) (z : Value) (KX : K.In s.heap) (hl : (us ++ [z]).length = (["record", "most"] : List Str).length) : BindsTo s (PySem.W.fnOf "how_many_orders" "how_many_orders" (defArgs s_how_many_orders) (defBody s_how_many_orders) (defScope s_how_many_orders) (.ref T) kV doc pm an cdv ct) ⟨us, [("most", z)]⟩ ((["record", "most"] : List Str).zip (us ++ [z])) := by
  have hl : us.length = 1 := by simpa using hl
  obtain ⟨_, _, rfl, h1⟩ := lenS hl; cases len0 h1
  exact PySem.W.binds_K KX rfl d rfl rfl rfl
theorem bi_Lwide (kV doc pm : Value) (an : Option Addr) (cdv ct : Value) (us : List Value) (hl : us.length = (["bag"] : List Str).length) : bindArgs (PySem.W.fnOf "_law_wide" "_law_wide" (defArgs s_Lwide) (defBody s_Lwide) (defScope s_Lwide) .none kV doc pm an cdv ct) ⟨us, []⟩ = pure ((["bag"] : List Str).zip us) := by obtain ⟨_, _, rfl, h1⟩ := lenS hl; cases len0 h1; rfl
theorem bi_Llayer (kV doc pm : Value) (an : Option Addr) (cdv ct : Value) (us : List Value) (hl : us.length = (["record", "here"] : List Str).length) : bindArgs (PySem.W.fnOf "_law_layer" "_law_layer" (defArgs s_Llayer) (defBody s_Llayer) (defScope s_Llayer) .none kV doc pm an cdv ct) ⟨us, []⟩ = pure ((["record", "here"] : List Str).zip us) := by obtain ⟨_, _, rfl, h1⟩ := lenS hl; obtain ⟨_, _, rfl, h2⟩ := lenS h1; cases len0 h2; rfl
theorem bi_Lcounted (kV doc pm : Value) (an : Option Addr) (cdv ct : Value) (us : List Value) (hl : us.length = (["record"] : List Str).length) : bindArgs (PySem.W.fnOf "_law_counted" "_law_counted" (defArgs s_Lcounted) (defBody s_Lcounted) (defScope s_Lcounted) .none kV doc pm an cdv ct) ⟨us, []⟩ = pure ((["record"] : List Str).zip us) := by obtain ⟨_, _, rfl, h1⟩ := lenS hl; cases len0 h1; rfl
theorem bi_Lcuts (kV doc pm : Value) (an : Option Addr) (cdv ct : Value) (us : List Value) (hl : us.length = (["record", "kind", "limit"] : List Str).length) : bindArgs (PySem.W.fnOf "_law_cuts" "_law_cuts" (defArgs s_Lcuts) (defBody s_Lcuts) (defScope s_Lcuts) .none kV doc pm an cdv ct) ⟨us, []⟩ = pure ((["record", "kind", "limit"] : List Str).zip us) := by obtain ⟨_, _, rfl, h1⟩ := lenS hl; obtain ⟨_, _, rfl, h2⟩ := lenS h1; obtain ⟨_, _, rfl, h3⟩ := lenS h2; cases len0 h3; rfl
theorem bi_Lorders (kV doc pm : Value) (an : Option Addr) (cdv ct : Value) (us : List Value) (hl : us.length = (["record", "kind", "limit"] : List Str).length) : bindArgs (PySem.W.fnOf "_law_orders" "_law_orders" (defArgs s_Lorders) (defBody s_Lorders) (defScope s_Lorders) .none kV doc pm an cdv ct) ⟨us, []⟩ = pure ((["record", "kind", "limit"] : List Str).zip us) := by obtain ⟨_, _, rfl, h1⟩ := lenS hl; obtain ⟨_, _, rfl, h2⟩ := lenS h1; obtain ⟨_, _, rfl, h3⟩ := lenS h2; cases len0 h3; rfl
theorem bi_Lis (kV doc pm : Value) (an : Option Addr) (cdv ct : Value) (us : List Value) (hl : us.length = (["found", "due"] : List Str).length) : bindArgs (PySem.W.fnOf "_law_is" "_law_is" (defArgs s_Lis) (defBody s_Lis) (defScope s_Lis) .none kV doc pm an cdv ct) ⟨us, []⟩ = pure ((["found", "due"] : List Str).zip us) := by obtain ⟨_, _, rfl, h1⟩ := lenS hl; obtain ⟨_, _, rfl, h2⟩ := lenS h1; cases len0 h2; rfl
theorem all_mk {l : PySem.W.OpenLaw} {w : World} {K : PySem.W.Frag} {h : Heap} {mg : Str → Option Value} {fa f0 f1 f2 f3 f4 f5 f6 f7 f8 f9 f10 f11 f12 f13 f14 f15 f16 f17 f18 f19 f20 f21 f22 f23 f24 f25 f26 f27 C_TooMany : Addr} (X : K.In h) (G : h.Ns mainGlobals mg) (hfa : mg "law" = some (.ref fa))
    {od0 an0 od1 an1 od2 an2 od3 an3 od4 an4 od5 an5 od6 an6 od7 an7 od8 an8 od9 an9 od10 an10 od11 an11 od12 an12 od13 an13 od14 an14 od15 an15 od16 an16 od17 an17 od18 an18 od19 an19 od20 an20 od21 an21 od22 an22 od23 an23 od24 an24 od25 an25 od26 an26 od27 an27 : Option Addr} {sl0 sl1 sl2 sl3 sl4 sl5 sl6 sl7 sl8 sl9 sl10 sl11 sl12 sl13 sl14 sl15 sl16 sl17 sl18 sl19 sl20 sl21 sl22 sl23 sl24 sl25 sl26 sl27 : Array (Option Value)} {oc0 kV0 dc0 pm0 cd0 ct0 oc1 kV1 dc1 pm1 cd1 ct1 oc2 kV2 dc2 pm2 cd2 ct2 oc3 kV3 dc3 pm3 cd3 ct3 oc4 kV4 dc4 pm4 cd4 ct4 oc5 kV5 dc5 pm5 cd5 ct5 oc6 kV6 dc6 pm6 cd6 ct6 oc7 kV7 dc7 pm7 cd7 ct7 oc8 kV8 dc8 pm8 cd8 ct8 oc9 kV9 dc9 pm9 cd9 ct9 oc10 kV10 dc10 pm10 cd10 ct10 oc11 kV11 dc11 pm11 cd11 ct11 oc12 kV12 dc12 pm12 cd12 ct12 oc13 kV13 dc13 pm13 cd13 ct13 oc14 kV14 dc14 pm14 cd14 ct14 oc15 kV15 dc15 pm15 cd15 ct15 oc16 kV16 dc16 pm16 cd16 ct16 oc17 kV17 dc17 pm17 cd17 ct17 oc18 kV18 dc18 pm18 cd18 ct18 oc19 kV19 dc19 pm19 cd19 ct19 oc20 kV20 dc20 pm20 cd20 ct20 oc21 kV21 dc21 pm21 cd21 ct21 oc22 kV22 dc22 pm22 cd22 ct22 oc23 kV23 dc23 pm23 cd23 ct23 oc24 kV24 dc24 pm24 cd24 ct24 oc25 kV25 dc25 pm25 cd25 ct25 oc26 kV26 dc26 pm26 cd26 ct26 oc27 kV27 dc27 pm27 cd27 ct27 : Value}
    (a0 : PySem.W.nsIn K mainGlobals "_law_bag" = some (some (.ref f0))) (l0 : K.lookup f0 = some ⟨oc0, od0, .func (PySem.W.fnOf "_law_bag" "_law_bag" (defArgs s_Lbag) (defBody s_Lbag) (defScope s_Lbag) .none kV0 dc0 pm0 an0 cd0 ct0), sl0⟩) (c0 : PySem.W.codeIn K cd0 "_law_bag" = true) (k0 : PySem.W.keepIn K (.ref f0) = true)
    (a1 : PySem.W.nsIn K mainGlobals "_law_stir" = some (some (.ref f1))) (l1 : K.lookup f1 = some ⟨oc1, od1, .func (PySem.W.fnOf "_law_stir" "_law_stir" (defArgs s_Lstir) (defBody s_Lstir) (defScope s_Lstir) .none kV1 dc1 pm1 an1 cd1 ct1), sl1⟩) (c1 : PySem.W.codeIn K cd1 "_law_stir" = true) (k1 : PySem.W.keepIn K (.ref f1) = true)
    (a2 : PySem.W.nsIn K mainGlobals "_law_draw" = some (some (.ref f2))) (l2 : K.lookup f2 = some ⟨oc2, od2, .func (PySem.W.fnOf "_law_draw" "_law_draw" (defArgs s_Ldraw) (defBody s_Ldraw) (defScope s_Ldraw) .none kV2 dc2 pm2 an2 cd2 ct2), sl2⟩) (c2 : PySem.W.codeIn K cd2 "_law_draw" = true) (k2 : PySem.W.keepIn K (.ref f2) = true)
    (a3 : PySem.W.nsIn K mainGlobals "_law_counts" = some (some (.ref f3))) (l3 : K.lookup f3 = some ⟨oc3, od3, .func (PySem.W.fnOf "_law_counts" "_law_counts" (defArgs s_Lcounts) (defBody s_Lcounts) (defScope s_Lcounts) .none kV3 dc3 pm3 an3 cd3 ct3), sl3⟩) (c3 : PySem.W.codeIn K cd3 "_law_counts" = true) (k3 : PySem.W.keepIn K (.ref f3) = true)
    (a4 : PySem.W.nsIn K mainGlobals "_law_order" = some (some (.ref f4))) (l4 : K.lookup f4 = some ⟨oc4, od4, .func (PySem.W.fnOf "_law_order" "_law_order" (defArgs s_Lorder) (defBody s_Lorder) (defScope s_Lorder) .none kV4 dc4 pm4 an4 cd4 ct4), sl4⟩) (c4 : PySem.W.codeIn K cd4 "_law_order" = true) (k4 : PySem.W.keepIn K (.ref f4) = true)
    (a5 : PySem.W.nsIn K mainGlobals "_law_spots" = some (some (.ref f5))) (l5 : K.lookup f5 = some ⟨oc5, od5, .func (PySem.W.fnOf "_law_spots" "_law_spots" (defArgs s_Lspots) (defBody s_Lspots) (defScope s_Lspots) .none kV5 dc5 pm5 an5 cd5 ct5), sl5⟩) (c5 : PySem.W.codeIn K cd5 "_law_spots" = true) (k5 : PySem.W.keepIn K (.ref f5) = true)
    (a6 : PySem.W.nsIn K mainGlobals "_law_note" = some (some (.ref f6))) (l6 : K.lookup f6 = some ⟨oc6, od6, .func (PySem.W.fnOf "_law_note" "_law_note" (defArgs s_Lnote) (defBody s_Lnote) (defScope s_Lnote) .none kV6 dc6 pm6 an6 cd6 ct6), sl6⟩) (c6 : PySem.W.codeIn K cd6 "_law_note" = true) (k6 : PySem.W.keepIn K (.ref f6) = true)
    (a7 : PySem.W.nsIn K mainGlobals "_law_record" = some (some (.ref f7))) (l7 : K.lookup f7 = some ⟨oc7, od7, .func (PySem.W.fnOf "_law_record" "_law_record" (defArgs s_Lrecord) (defBody s_Lrecord) (defScope s_Lrecord) .none kV7 dc7 pm7 an7 cd7 ct7), sl7⟩) (c7 : PySem.W.codeIn K cd7 "_law_record" = true) (k7 : PySem.W.keepIn K (.ref f7) = true)
    (a8 : PySem.W.nsIn K mainGlobals "_law_copy" = some (some (.ref f8))) (l8 : K.lookup f8 = some ⟨oc8, od8, .func (PySem.W.fnOf "_law_copy" "_law_copy" (defArgs s_Lcopy) (defBody s_Lcopy) (defScope s_Lcopy) .none kV8 dc8 pm8 an8 cd8 ct8), sl8⟩) (c8 : PySem.W.codeIn K cd8 "_law_copy" = true) (k8 : PySem.W.keepIn K (.ref f8) = true)
    (a9 : PySem.W.nsIn K mainGlobals "is_whole" = some (some (.ref f9))) (l9 : K.lookup f9 = some ⟨oc9, od9, .func (PySem.W.fnOf "is_whole" "is_whole" (defArgs s_is_whole) (defBody s_is_whole) (defScope s_is_whole) .none kV9 dc9 pm9 an9 cd9 ct9), sl9⟩) (c9 : PySem.W.codeIn K cd9 "is_whole" = true) (k9 : PySem.W.keepIn K (.ref f9) = true)
    (a10 : PySem.W.nsIn K mainGlobals "is_below" = some (some (.ref f10))) (l10 : K.lookup f10 = some ⟨oc10, od10, .func (PySem.W.fnOf "is_below" "is_below" (defArgs s_is_below) (defBody s_is_below) (defScope s_is_below) .none kV10 dc10 pm10 an10 cd10 ct10), sl10⟩) (c10 : PySem.W.codeIn K cd10 "is_below" = true) (k10 : PySem.W.keepIn K (.ref f10) = true)
    (a11 : PySem.W.nsIn K mainGlobals "is_note" = some (some (.ref f11))) (l11 : K.lookup f11 = some ⟨oc11, od11, .func (PySem.W.fnOf "is_note" "is_note" (defArgs s_is_note) (defBody s_is_note) (defScope s_is_note) .none kV11 dc11 pm11 an11 cd11 ct11), sl11⟩) (c11 : PySem.W.codeIn K cd11 "is_note" = true) (k11 : PySem.W.keepIn K (.ref f11) = true)
    (a12 : PySem.W.nsIn K mainGlobals "is_between" = some (some (.ref f12))) (l12 : K.lookup f12 = some ⟨oc12, od12, .func (PySem.W.fnOf "is_between" "is_between" (defArgs s_is_between) (defBody s_is_between) (defScope s_is_between) .none kV12 dc12 pm12 an12 cd12 ct12), sl12⟩) (c12 : PySem.W.codeIn K cd12 "is_between" = true) (k12 : PySem.W.keepIn K (.ref f12) = true)
    (a13 : PySem.W.nsIn K mainGlobals "check_notes" = some (some (.ref f13))) (l13 : K.lookup f13 = some ⟨oc13, od13, .func (PySem.W.fnOf "check_notes" "check_notes" (defArgs s_check_notes) (defBody s_check_notes) (defScope s_check_notes) .none kV13 dc13 pm13 an13 cd13 ct13), sl13⟩) (c13 : PySem.W.codeIn K cd13 "check_notes" = true) (k13 : PySem.W.keepIn K (.ref f13) = true)
    (a14 : PySem.W.nsIn K mainGlobals "has" = some (some (.ref f14))) (l14 : K.lookup f14 = some ⟨oc14, od14, .func (PySem.W.fnOf "has" "has" (defArgs s_has) (defBody s_has) (defScope s_has) .none kV14 dc14 pm14 an14 cd14 ct14), sl14⟩) (c14 : PySem.W.codeIn K cd14 "has" = true) (k14 : PySem.W.keepIn K (.ref f14) = true)
    (a15 : PySem.W.nsIn K mainGlobals "firsts_of" = some (some (.ref f15))) (l15 : K.lookup f15 = some ⟨oc15, od15, .func (PySem.W.fnOf "firsts_of" "firsts_of" (defArgs s_firsts_of) (defBody s_firsts_of) (defScope s_firsts_of) .none kV15 dc15 pm15 an15 cd15 ct15), sl15⟩) (c15 : PySem.W.codeIn K cd15 "firsts_of" = true) (k15 : PySem.W.keepIn K (.ref f15) = true)
    (a16 : PySem.W.nsIn K mainGlobals "is_free" = some (some (.ref f16))) (l16 : K.lookup f16 = some ⟨oc16, od16, .func (PySem.W.fnOf "is_free" "is_free" (defArgs s_is_free) (defBody s_is_free) (defScope s_is_free) .none kV16 dc16 pm16 an16 cd16 ct16), sl16⟩) (c16 : PySem.W.codeIn K cd16 "is_free" = true) (k16 : PySem.W.keepIn K (.ref f16) = true)
    (a17 : PySem.W.nsIn K mainGlobals "free_hands" = some (some (.ref f17))) (l17 : K.lookup f17 = some ⟨oc17, od17, .func (PySem.W.fnOf "free_hands" "free_hands" (defArgs s_free_hands) (defBody s_free_hands) (defScope s_free_hands) .none kV17 dc17 pm17 an17 cd17 ct17), sl17⟩) (c17 : PySem.W.codeIn K cd17 "free_hands" = true) (k17 : PySem.W.keepIn K (.ref f17) = true)
    (a18 : PySem.W.nsIn K mainGlobals "ways_to_cuts" = some (some (.ref f18))) (l18 : K.lookup f18 = some ⟨oc18, od18, .func (PySem.W.fnOf "ways_to_cuts" "ways_to_cuts" (defArgs s_ways_to_cuts) (defBody s_ways_to_cuts) (defScope s_ways_to_cuts) .none kV18 dc18 pm18 an18 cd18 ct18), sl18⟩) (c18 : PySem.W.codeIn K cd18 "ways_to_cuts" = true) (k18 : PySem.W.keepIn K (.ref f18) = true)
    {tk19 : Tok} {T19 : Addr} {tc19 : Value} {td19 : Option Addr} {tn19 : Nat} {tsl19 : Array (Option Value)} (a19 : PySem.W.nsIn K mainGlobals "how_many_cuts" = some (some (.ref f19))) (l19 : K.lookup f19 = some ⟨oc19, od19, .func (PySem.W.fnOf "how_many_cuts" "how_many_cuts" (defArgs s_how_many_cuts) (defBody s_how_many_cuts) (defScope s_how_many_cuts) (.ref T19) kV19 dc19 pm19 an19 cd19 ct19), sl19⟩) (c19 : PySem.W.codeIn K cd19 "how_many_cuts" = true) (k19 : PySem.W.keepIn K (.ref f19) = true) (d19 : K.lookup T19 = some ⟨tc19, td19, .seq #[.int 2000 tk19] tn19, tsl19⟩)
    {tk20 : Tok} {T20 : Addr} {tc20 : Value} {td20 : Option Addr} {tn20 : Nat} {tsl20 : Array (Option Value)} (a20 : PySem.W.nsIn K mainGlobals "how_many_orders" = some (some (.ref f20))) (l20 : K.lookup f20 = some ⟨oc20, od20, .func (PySem.W.fnOf "how_many_orders" "how_many_orders" (defArgs s_how_many_orders) (defBody s_how_many_orders) (defScope s_how_many_orders) (.ref T20) kV20 dc20 pm20 an20 cd20 ct20), sl20⟩) (c20 : PySem.W.codeIn K cd20 "how_many_orders" = true) (k20 : PySem.W.keepIn K (.ref f20) = true) (d20 : K.lookup T20 = some ⟨tc20, td20, .seq #[.int 2000 tk20] tn20, tsl20⟩)
    (a21 : PySem.W.nsIn K mainGlobals "_law_wide" = some (some (.ref f21))) (l21 : K.lookup f21 = some ⟨oc21, od21, .func (PySem.W.fnOf "_law_wide" "_law_wide" (defArgs s_Lwide) (defBody s_Lwide) (defScope s_Lwide) .none kV21 dc21 pm21 an21 cd21 ct21), sl21⟩) (c21 : PySem.W.codeIn K cd21 "_law_wide" = true) (k21 : PySem.W.keepIn K (.ref f21) = true)
    (a22 : PySem.W.nsIn K mainGlobals "_law_layer" = some (some (.ref f22))) (l22 : K.lookup f22 = some ⟨oc22, od22, .func (PySem.W.fnOf "_law_layer" "_law_layer" (defArgs s_Llayer) (defBody s_Llayer) (defScope s_Llayer) .none kV22 dc22 pm22 an22 cd22 ct22), sl22⟩) (c22 : PySem.W.codeIn K cd22 "_law_layer" = true) (k22 : PySem.W.keepIn K (.ref f22) = true)
    (a23 : PySem.W.nsIn K mainGlobals "_law_counted" = some (some (.ref f23))) (l23 : K.lookup f23 = some ⟨oc23, od23, .func (PySem.W.fnOf "_law_counted" "_law_counted" (defArgs s_Lcounted) (defBody s_Lcounted) (defScope s_Lcounted) .none kV23 dc23 pm23 an23 cd23 ct23), sl23⟩) (c23 : PySem.W.codeIn K cd23 "_law_counted" = true) (k23 : PySem.W.keepIn K (.ref f23) = true)
    (a24 : PySem.W.nsIn K mainGlobals "_law_cuts" = some (some (.ref f24))) (l24 : K.lookup f24 = some ⟨oc24, od24, .func (PySem.W.fnOf "_law_cuts" "_law_cuts" (defArgs s_Lcuts) (defBody s_Lcuts) (defScope s_Lcuts) .none kV24 dc24 pm24 an24 cd24 ct24), sl24⟩) (c24 : PySem.W.codeIn K cd24 "_law_cuts" = true) (k24 : PySem.W.keepIn K (.ref f24) = true)
    (a25 : PySem.W.nsIn K mainGlobals "_law_orders" = some (some (.ref f25))) (l25 : K.lookup f25 = some ⟨oc25, od25, .func (PySem.W.fnOf "_law_orders" "_law_orders" (defArgs s_Lorders) (defBody s_Lorders) (defScope s_Lorders) .none kV25 dc25 pm25 an25 cd25 ct25), sl25⟩) (c25 : PySem.W.codeIn K cd25 "_law_orders" = true) (k25 : PySem.W.keepIn K (.ref f25) = true)
    (a26 : PySem.W.nsIn K mainGlobals "_law_is" = some (some (.ref f26))) (l26 : K.lookup f26 = some ⟨oc26, od26, .func (PySem.W.fnOf "_law_is" "_law_is" (defArgs s_Lis) (defBody s_Lis) (defScope s_Lis) .none kV26 dc26 pm26 an26 cd26 ct26), sl26⟩) (c26 : PySem.W.codeIn K cd26 "_law_is" = true) (k26 : PySem.W.keepIn K (.ref f26) = true)
    (a27 : PySem.W.nsIn K mainGlobals "law" = some (some (.ref f27))) (l27 : K.lookup f27 = some ⟨oc27, od27, .func (PySem.W.fnOf "law" "law" (defArgs s_law) (defBody s_law) (defScope s_law) .none kV27 dc27 pm27 an27 cd27 ct27), sl27⟩) (c27 : PySem.W.codeIn K cd27 "law" = true) (k27 : PySem.W.keepIn K (.ref f27) = true)
    (xa_TooMany : PySem.W.nsIn K mainGlobals "TooMany" = some (some (.ref C_TooMany)))
    (xcl_TooMany : (PySem.W.clsIn K C_TooMany).isSome = true)
    (xty_TooMany : PySem.W.typeIn K (.ref C_TooMany) = some (.type "type"))
    (xbs_TooMany : PySem.W.subIn K (.ref C_TooMany) (.type "BaseException") = some true)
    (xcg : PySem.W.specialIn K (.builtin "object.__class__") "__get__" = some (some (.builtin "getset_descriptor.__get__")))
    (xct : PySem.W.takesIn K (.builtin "object.__class__") = some true)
    (xga_TooMany : PySem.W.findIn K (.ref C_TooMany) "__getattribute__" = some (some (.builtin "BaseException.__getattribute__")))
    (xgk_TooMany : PySem.W.findIn K (.ref C_TooMany) "__getattr__" = some none)
    (xmB_TooMany : PySem.W.mroIn K C_TooMany (.type "BaseException") = some true)
    (xca_TooMany : PySem.W.findIn K (.ref C_TooMany) "__class__" = some (some (.builtin "object.__class__")))
    (xmo_TooMany : PySem.W.mroIn K C_TooMany (.type "object") = some true)
    (xve_TooMany : PySem.W.subIn K (.ref C_TooMany) (.type "ValueError") = some true)
    (xex_TooMany : PySem.W.excIn K C_TooMany [.type "ValueError", .type "Exception", .type "BaseException", .type "object"] "ValueError.__new__" = true)
    (z_ValueError : PySem.W.nsIn K mainGlobals "ValueError" = some none) (z_all : PySem.W.nsIn K mainGlobals "all" = some none) (z_bool : PySem.W.nsIn K mainGlobals "bool" = some none) (z_int : PySem.W.nsIn K mainGlobals "int" = some none) (z_isinstance : PySem.W.nsIn K mainGlobals "isinstance" = some none) (z_len : PySem.W.nsIn K mainGlobals "len" = some none) (z_list : PySem.W.nsIn K mainGlobals "list" = some none) (z_max : PySem.W.nsIn K mainGlobals "max" = some none) (z_min : PySem.W.nsIn K mainGlobals "min" = some none) (z_range : PySem.W.nsIn K mainGlobals "range" = some none) (z_sorted : PySem.W.nsIn K mainGlobals "sorted" = some none) (z_sum : PySem.W.nsIn K mainGlobals "sum" = some none) (z_tuple : PySem.W.nsIn K mainGlobals "tuple" = some none) :
    ∃ fd : FuncData, (∀ (s : Shared) (v : Value), BindsTo s fd ⟨[v], []⟩ [("script", v)]) ∧ ∀ base : Heap, K.In base → base.Ns mainGlobals mg → FnOk l.prog w K mg base CX0 7 fa fd ["script"] (spLaw K) := by
  have e := hfa.symm.trans (PySem.W.mg_of X G a27)
  cases e
  have Bt : Blt mg := ⟨PySem.W.mg_none_of X G z_ValueError, PySem.W.mg_none_of X G z_all, PySem.W.mg_none_of X G z_bool, PySem.W.mg_none_of X G z_int, PySem.W.mg_none_of X G z_isinstance, PySem.W.mg_none_of X G z_len, PySem.W.mg_none_of X G z_list, PySem.W.mg_none_of X G z_max, PySem.W.mg_none_of X G z_min, PySem.W.mg_none_of X G z_range, PySem.W.mg_none_of X G z_sorted, PySem.W.mg_none_of X G z_sum, PySem.W.mg_none_of X G z_tuple⟩
  have X_TooMany : Xr K mg C_TooMany "TooMany" := ⟨PySem.W.mg_of X G xa_TooMany, ⟨xcl_TooMany, xty_TooMany, xbs_TooMany⟩, ⟨xga_TooMany, xgk_TooMany, xmB_TooMany, xcl_TooMany, xca_TooMany, xcg, xct, xmo_TooMany⟩, xex_TooMany, xve_TooMany⟩
  have F0 := fun_mk (st := s_Lbag) l0 c0 k0
  have F1 := fun_mk (st := s_Lstir) l1 c1 k1
  have F2 := fun_mk (st := s_Ldraw) l2 c2 k2
  have F3 := fun_mk (st := s_Lcounts) l3 c3 k3
  have F4 := fun_mk (st := s_Lorder) l4 c4 k4
  have F5 := fun_mk (st := s_Lspots) l5 c5 k5
  have F6 := fun_mk (st := s_Lnote) l6 c6 k6
  have F7 := fun_mk (st := s_Lrecord) l7 c7 k7
  have F8 := fun_mk (st := s_Lcopy) l8 c8 k8
  have F9 := fun_mk (st := s_is_whole) l9 c9 k9
  have F10 := fun_mk (st := s_is_below) l10 c10 k10
  have F11 := fun_mk (st := s_is_note) l11 c11 k11
  have F12 := fun_mk (st := s_is_between) l12 c12 k12
  have F13 := fun_mk (st := s_check_notes) l13 c13 k13
  have F14 := fun_mk (st := s_has) l14 c14 k14
  have F15 := fun_mk (st := s_firsts_of) l15 c15 k15
  have F16 := fun_mk (st := s_is_free) l16 c16 k16
  have F17 := fun_mk (st := s_free_hands) l17 c17 k17
  have F18 := fun_mk (st := s_ways_to_cuts) l18 c18 k18
  have F19 : FunD K "how_many_cuts" "how_many_cuts" s_how_many_cuts [.int 2000 tk19] f19 _ := ⟨⟨_, _, _, _, _, _, _, _, _, _, _, _, _, _, rfl, l19, c19, d19⟩, k19⟩
  have F20 : FunD K "how_many_orders" "how_many_orders" s_how_many_orders [.int 2000 tk20] f20 _ := ⟨⟨_, _, _, _, _, _, _, _, _, _, _, _, _, _, rfl, l20, c20, d20⟩, k20⟩
  have F21 := fun_mk (st := s_Lwide) l21 c21 k21
  have F22 := fun_mk (st := s_Llayer) l22 c22 k22
  have F23 := fun_mk (st := s_Lcounted) l23 c23 k23
  have F24 := fun_mk (st := s_Lcuts) l24 c24 k24
  have F25 := fun_mk (st := s_Lorders) l25 c25 k25
  have F26 := fun_mk (st := s_Lis) l26 c26 k26
  have F27 := fun_mk (st := s_law) l27 c27 k27
  refine ⟨PySem.W.fnOf "law" "law" (defArgs s_law) (defBody s_law) (defScope s_law) .none kV27 dc27 pm27 an27 cd27 ct27, fun s v => .of_eq rfl, fun base _ _ => ?_⟩
  have A0 : FnAt l.prog w K mg base 1 "_law_bag" ["script"] (spBag K) := ⟨f0, _, ok_bag F0 Bt, PySem.W.mg_of X G a0, k0, F0.binds (ps := ["script"]) bi_Lbag⟩
  have A1 : FnAt l.prog w K mg base 1 "_law_stir" ["number", "place"] (spStir K) := ⟨f1, _, ok_stir F1 , PySem.W.mg_of X G a1, k1, F1.binds (ps := ["number", "place"]) bi_Lstir⟩
  have A2 : FnAt l.prog w K mg base 2 "_law_draw" ["bag", "many"] (spDraw K) := ⟨f2, _, ok_draw F2 A1 Bt, PySem.W.mg_of X G a2, k2, F2.binds (ps := ["bag", "many"]) bi_Ldraw⟩
  have A3 : FnAt l.prog w K mg base 3 "_law_counts" ["bag", "great"] (spCounts K) := ⟨f3, _, ok_counts F3 A2 Bt, PySem.W.mg_of X G a3, k3, F3.binds (ps := ["bag", "great"]) bi_Lcounts⟩
  have A4 : FnAt l.prog w K mg base 3 "_law_order" ["bag", "counts"] (spOrder K) := ⟨f4, _, ok_order F4 A2 Bt, PySem.W.mg_of X G a4, k4, F4.binds (ps := ["bag", "counts"]) bi_Lorder⟩
  have A5 : FnAt l.prog w K mg base 1 "_law_spots" ["order"] (spSpots K) := ⟨f5, _, ok_spots F5 Bt, PySem.W.mg_of X G a5, k5, F5.binds (ps := ["order"]) bi_Lspots⟩
  have A6 : FnAt l.prog w K mg base 3 "_law_note" ["bag", "counts"] (spNote K) := ⟨f6, _, ok_note F6 A2 Bt, PySem.W.mg_of X G a6, k6, F6.binds (ps := ["bag", "counts"]) bi_Lnote⟩
  have A7 : FnAt l.prog w K mg base 4 "_law_record" ["bag", "great"] (spRecordD K) := ⟨f7, _, ok_recordD F7 A2 A3 A4 A5 A6 Bt, PySem.W.mg_of X G a7, k7, F7.binds (ps := ["bag", "great"]) bi_Lrecord⟩
  have A8 : FnAt l.prog w K mg base 1 "_law_copy" ["record"] (spCopy K) := ⟨f8, _, ok_copy F8 Bt, PySem.W.mg_of X G a8, k8, F8.binds (ps := ["record"]) bi_Lcopy⟩
  have A9 : FnAt l.prog w K mg base 1 "is_whole" ["value"] (spWh K) := ⟨f9, _, ok_is_whole F9 Bt, PySem.W.mg_of X G a9, k9, F9.binds (ps := ["value"]) bi_is_whole⟩
  have A10 : FnAt l.prog w K mg base 2 "is_below" ["value", "count"] (spBelow K) := ⟨f10, _, ok_is_below F10 A9, PySem.W.mg_of X G a10, k10, F10.binds (ps := ["value", "count"]) bi_is_below⟩
  have A11 : FnAt l.prog w K mg base 2 "is_note" ["value"] (spIsNote K) := ⟨f11, _, ok_is_note F11 A9 Bt, PySem.W.mg_of X G a11, k11, F11.binds (ps := ["value"]) bi_is_note⟩
  have A12 : FnAt l.prog w K mg base 3 "is_between" ["counts", "note"] (spBetween K) := ⟨f12, _, ok_is_between F12 A10 A11 Bt, PySem.W.mg_of X G a12, k12, F12.binds (ps := ["counts", "note"]) bi_is_between⟩
  have A13 : FnAt l.prog w K mg base 4 "check_notes" ["record"] (spCheckN K) := ⟨f13, _, ok_check_notes F13 A12 Bt, PySem.W.mg_of X G a13, k13, F13.binds (ps := ["record"]) bi_check_notes⟩
  have A14 : FnAt l.prog w K mg base 1 "has" ["done", "touch"] (spHas K) := ⟨f14, _, ok_has F14 , PySem.W.mg_of X G a14, k14, F14.binds (ps := ["done", "touch"]) bi_has⟩
  have A15 : FnAt l.prog w K mg base 1 "firsts_of" ["record"] (spFirsts K) := ⟨f15, _, ok_firsts F15 , PySem.W.mg_of X G a15, k15, F15.binds (ps := ["record"]) bi_firsts_of⟩
  have A16 : FnAt l.prog w K mg base 2 "is_free" ["counts", "firsts", "done", "hand"] (spFree K) := ⟨f16, _, ok_is_free F16 A14 Bt, PySem.W.mg_of X G a16, k16, F16.binds (ps := ["counts", "firsts", "done", "hand"]) bi_is_free⟩
  have A17 : FnAt l.prog w K mg base 3 "free_hands" ["counts", "firsts", "done"] (spFreeH K) := ⟨f17, _, ok_free_hands F17 A16 Bt, PySem.W.mg_of X G a17, k17, F17.binds (ps := ["counts", "firsts", "done"]) bi_free_hands⟩
  have A18 : FnAtX l.prog w K mg base 4 "ways_to_cuts" ["record", "most"] (spWaysG C_TooMany K) := ⟨f18, _, ok_waysG F18 A15 A17 Bt X_TooMany, PySem.W.mg_of X G a18, k18, F18.binds (ps := ["record", "most"]) bi_ways_to_cuts⟩
  have G19 := ok_hmc3 F19 A13 A18 Bt
  have A19 : FnAtX l.prog w K mg base 5 "how_many_cuts" ["record", "most"] (spHmc3 C_TooMany K) := ⟨f19, _, G19, PySem.W.mg_of X G a19, k19, bd0_how_many_cuts d19⟩
  have A19_1 : FnAtD l.prog w K mg base 5 "how_many_cuts" ["record", "most"] [.int 2000] (spHmc3 C_TooMany K) := ⟨f19, _, _, G19, PySem.W.mg_of X G a19, k19, bd1_how_many_cuts d19, .cons ⟨_, rfl⟩ .nil⟩
  have A19_K : FnAtK l.prog w K mg base 5 "how_many_cuts" ["record", "most"] "most" (spHmc3 C_TooMany K) := ⟨f19, _, G19, PySem.W.mg_of X G a19, k19, bdK_how_many_cuts d19⟩
  have G20 := ok_hmo3 F20 A13 A18 Bt
  have A20 : FnAtX l.prog w K mg base 5 "how_many_orders" ["record", "most"] (spHmo3 C_TooMany K) := ⟨f20, _, G20, PySem.W.mg_of X G a20, k20, bd0_how_many_orders d20⟩
  have A20_1 : FnAtD l.prog w K mg base 5 "how_many_orders" ["record", "most"] [.int 2000] (spHmo3 C_TooMany K) := ⟨f20, _, _, G20, PySem.W.mg_of X G a20, k20, bd1_how_many_orders d20, .cons ⟨_, rfl⟩ .nil⟩
  have A20_K : FnAtK l.prog w K mg base 5 "how_many_orders" ["record", "most"] "most" (spHmo3 C_TooMany K) := ⟨f20, _, G20, PySem.W.mg_of X G a20, k20, bdK_how_many_orders d20⟩
  have A21 : FnAt l.prog w K mg base 4 "_law_wide" ["bag"] (spWide K) := ⟨f21, _, ok_wide F21 A2 A6 Bt, PySem.W.mg_of X G a21, k21, F21.binds (ps := ["bag"]) bi_Lwide⟩
  have A22 : FnAt l.prog w K mg base 1 "_law_layer" ["record", "here"] (spLayer K) := ⟨f22, _, ok_layer F22 Bt, PySem.W.mg_of X G a22, k22, F22.binds (ps := ["record", "here"]) bi_Llayer⟩
  have A23 : FnAt l.prog w K mg base 2 "_law_counted" ["record"] (spCounted K) := ⟨f23, _, ok_counted F23 A22 Bt, PySem.W.mg_of X G a23, k23, F23.binds (ps := ["record"]) bi_Lcounted⟩
  have A24 : FnAt l.prog w K mg base 6 "_law_cuts" ["record", "kind", "limit"] (spCutsT K) := ⟨f24, _, ok_cutsT F24 X_TooMany A19 A19_1 A19_K Bt, PySem.W.mg_of X G a24, k24, F24.binds (ps := ["record", "kind", "limit"]) bi_Lcuts⟩
  have A25 : FnAt l.prog w K mg base 6 "_law_orders" ["record", "kind", "limit"] (spOrdsT K) := ⟨f25, _, ok_ordsT F25 X_TooMany A20 A20_1 A20_K Bt, PySem.W.mg_of X G a25, k25, F25.binds (ps := ["record", "kind", "limit"]) bi_Lorders⟩
  have A26 : FnAt l.prog w K mg base 1 "_law_is" ["found", "due"] (spIsT K) := ⟨f26, _, ok_isT F26 Bt, PySem.W.mg_of X G a26, k26, F26.binds (ps := ["found", "due"]) bi_Lis⟩
  exact ok_law F27 A0 A2 A21 A7 A23 A8 A24 A25 A26 Bt
theorem walk {l : PySem.W.OpenLaw} {q : Program} {loose : List Str} {XP : (Str → Option Value) → Heap → Prop} {YP : World → Heap → Prop} {d : DefRec} {K : Params → PySem.W.Frag} (hn : l.most = some 63) (hdf : d.params.defaults = [])
    (hY : ∀ (w : World) (h : Heap), YP w h → (K w.params).In h)
    (F : ∀ (w : World) (mg : Str → Option Value) (fa : Addr) (h : Heap), (K w.params).In h → h.Ns mainGlobals mg → mg d.name = some (.ref fa) →
      ∃ fd : FuncData, (∀ (s : Shared) (u : Value), BindsTo s fd ⟨[u], []⟩ [("script", u)]) ∧ ∀ base : Heap, (K w.params).In base → base.Ns mainGlobals mg → FnOk l.prog w (K w.params) mg base CX0 7 fa fd ["script"] (spLaw (K w.params))) :
    PySem.W.WalkO q loose XP YP l.row.toRowW d [] (fun f vs => PySem.call f vs) :=
  L2.walk_of (n := 63) (k := 7) (x := "script") (CX := fun _ => CX0) (sp := fun w => spLaw (K w.params)) hn (by decide) hdf ⟨rfl, by decide, by decide⟩ hY F (fun _ _ a ns hl _ hS => ⟨a, ns, rfl, hS, hl, fun _ => rfl⟩) fun _ _ _ _ _ z => z
end Prf
namespace PySem.W.Fast
def tw9852048323395698459 := ()
def tw13752691764804250346 := ()
def tw1180530586474532611 := ()
def tw11262380621574313406 := ()
def tw11360876378881566576 := ()
def tw13826491966552259309 := ()
def tw17496540415749732292 := ()
def tw14018326257684002995 := ()
def tw4564930294264213885 := ()
def tw2600252950567522859 := ()
def tw12637608152945297641 := ()
def tw4987477294247286115 := ()
def tw15223078002247289462 := ()
def tw2987201166187279721 := ()
def tw10671037915619201150 := ()
def tw14123890306729532363 := ()
def tw18149827228355621205 := ()
def tw4595522954512329208 := ()
def tw10349546695835400183 := ()
def tw8762517400066820388 := ()
def tw15108427350617901803 := ()
def tw18321477145253224790 := ()
def tw11258203115406601511 := ()
def tw3703751394569418750 := ()
def tw4720487561801889955 := ()
def tw485138804628100640 := ()
def tw17225838328550445931 := ()
def tw7859082146203813093 := ()
def tw15342839458513545291 := ()
def tw12430870674935734800 := ()
def tw1217459933837432074 := ()
def tw7641710529830256851 := ()
def tw7369708680977558096 := ()
def tw2597799817061098583 := ()
def tw7505184521582154448 := ()
def tw1920554372087478607 := ()
def tw14613716739612587133 := ()
def tw8352034618933468340 := ()
def tw9876455665934490057 := ()
def tw15982837819758584187 := ()
def tw6819727814808204653 := ()
def tw551780005475754522 := ()
def tw14122039667064568907 := ()
def tw768087671839293383 := ()
def tw17541078655499958708 := ()
def tw13288109170032420225 := ()
def tw10419882482526309133 := ()
def tw13613429189678976337 := ()
def tw13582680206803970168 := ()
def tw13563729422669850503 := ()
def tw14241104818156727024 := ()
def tw16173440189656849499 := ()
def tw2350736002128358333 := ()
def tw7929537519072085449 := ()
def tw18236004048251023671 := ()
def tw5075536105401610691 := ()
def tw8445644324905402950 := ()
def tw7574846394600464124 := ()
def tw11984867333657205287 := ()
def tw10482082063793646158 := ()
def tw760024588842144931 := ()
def tw16726951846885596937 := ()
def tw3916223448329974991 := ()
def tw12296949282746137924 := ()
def tw873840182265298195 := ()
def tw5315516335243538729 := ()
def tw718461745391885538 := ()
def tw12210242164395644770 := ()
def tw570294917956981381 := ()
def tw14853152554819002428 := ()
def tw17295265408028083762 := ()
def tw4865300076909745736 := ()
def tw5321058972077172475 := ()
def tw7777792092299806071 := ()
def tw324293575853624792 := ()
def tw16085489840361951989 := ()
def tw11577976197710290739 := ()
def tw14678772634225566426 := ()
def tw10136792011583579989 := ()
def tw16767519517763965958 := ()
def tw6791577943812921610 := ()
def tw4685379506134605702 := ()
def tw14039543362130244398 := ()
def tw3945401135496145127 := ()
def tw16679981098485369643 := ()
def tw14464464425984407427 := ()
def tw6750152366281186486 := ()
def tw17239544276028562448 := ()
def tw10665686830414662489 := ()
def tw1603962685436153044 := ()
def tw1215502755252926643 := ()
def tw15502619075110131915 := ()
def tw14143798468583194772 := ()
def tw13962733844941889725 := ()
def tw10007865723339740533 := ()
def tw2722568240158068723 := ()
def tw5207773057739384268 := ()
def tw4411119906398446363 := ()
def tw16273184709642873928 := ()
def tw11775971990050166446 := ()
def tw14970907581834830911 := ()
def tw6143403627825096509 := ()
def tw2533339326600567338 := ()
def tw17920878551174086150 := ()
def tw13545091719914832920 := ()
def tw13157412186941866704 := ()
def tw10986138252057028569 := ()
def tw11365877550709488592 := ()
def tw2548123164154203185 := ()
def tw11520206452706482182 := ()
def tw8712638480126239542 := ()
def tw10374625166009284988 := ()
def tw1965289544894460186 := ()
def tw5617201913875461356 := ()
def tw12874686316567944049 := ()
def tw726778298749556709 := ()
def tw10796894211365665538 := ()
def tw7263633998985028969 := ()
def tw10948584397882011332 := ()
def tw5010186736846334565 := ()
def tw17362677256264035108 := ()
def tw8993906404104492781 := ()
def tw17715080831802759516 := ()
def tw15387155659804377227 := ()
def tw4042570124034154382 := ()
def tw2324392511422108282 := ()
def tw5962827308156447699 := ()
def tw3331530139331293202 := ()
def tw14652339191301742497 := ()
def tw10616393749841703416 := ()
def tw10858583483729732963 := ()
def tw2216580982936047542 := ()
def tw11096650542897838004 := ()
def tw13597693644774354803 := ()
def tw7357796753521034456 := ()
def tw13449958280509161782 := ()
def tw13985837295597732618 := ()
def tw3500834951021600657 := ()
def tw11568337321165040521 := ()
def tw16199083361038390712 := ()
def tw1071575279006225986 := ()
def tw6243599912070854035 := ()
def tw14443258405105406487 := ()
def tw5717895905224777578 := ()
def tw2463511311193745431 := ()
def tw5258255868668332382 := ()
def tw1274900666093256696 := ()
def tw15303678030139306859 := ()
def tw17985052681851813341 := ()
def tw11544579058633700729 := ()
def tw16972936936110236838 := ()
def tw2342165569618223447 := ()
def tw5900886001711266097 := ()
def tw11362718790688627256 := ()
def tw7717327139458591247 := ()
def tw12320322203824704954 := ()
def tw3312173224707957556 := ()
def tw16916879588353079106 := ()
def tw12470798906489153984 := ()
def tw2706548810087963922 := ()
def tw8669691405181253808 := ()
def tw15914704934944589532 := ()
def tw11499034327003198284 := ()
def tw11731898506201651473 := ()
def tw7050318308874993322 := ()
def tw15211217050035880613 := ()
def tw11285679566670583351 := ()
def tw5617045714902378086 := ()
def tw1389784054204970497 := ()
def tw10503202474804090696 := ()
def tw7826269815121127907 := ()
def tw15819401481172936083 := ()
def tw6154291855811155543 := ()
def tw12739997696781467647 := ()
def tw8844839408928492547 := ()
def tw6235960765613122877 := ()
def tw4545480521791152480 := ()
def tw15104716391932586622 := ()
def tw11444407193311710330 := ()
def tw12247136153330860108 := ()
def tw639968282477673436 := ()
def tw8068110140111440107 := ()
def tw7500837530232530913 := ()
def tw6245216180200324986 := ()
def tw9895009562656928500 := ()
def tw1787114502208204477 := ()
def tw8342311198705905348 := ()
def tw5496159962045153114 := ()
def tw15556911501731911040 := ()
def tw6382586661555081933 := ()
def tw787026394543838072 := ()
def tw115911712751073453 := ()
def tw10830691439197058442 := ()
def tw4745321621784402882 := ()
def tw11367493157222291550 := ()
def tw4257558351852200618 := ()
def tw448197255967085006 := ()
def tw13352189274753854608 := ()
def tw13838485189930352683 := ()
def tw438339545114652348 := ()
def tw2166458482308940177 := ()
def tw14772729726775170541 := ()
def tw17369686217409859473 := ()
def tw8046482634807282125 := ()
def tw10784728789950141848 := ()
def tw15567179061662550982 := ()
def tw2521748843114056216 := ()
def tw12219191976130284846 := ()
def tw15237691963520862565 := ()
def tw5758701314810602178 := ()
def tw9694123235075108142 := ()
def tw17384804940779267941 := ()
end PySem.W.Fast
open PySem PySem.W PyProof.Rows
set_option maxRecDepth 100000 in
set_option maxHeartbeats 0 in
theorem PySem.Challenge.cw_fewnotes_k41_cuts_and_orders_counted_holds : PySem.Challenge.rw_fewnotes_k41_cuts_and_orders_counted.Holds := by
  w_on; o_law; k_head; (case hw => w_witness2)
  k_fill
  refine Prf.walk (l := PySem.Challenge.rw_fewnotes_k41_cuts_and_orders_counted) rfl rfl (fun w h Y => PySem.W.kIn_of Y) ?F
  case F =>
    intro w mg fa h KX G hmg
    replace hmg : mg (Str.ofString "law") = some (.ref fa) := hmg
    refine' Prf.all_mk KX G hmg ?a0 ?l0 ?c0 ?k0 ?a1 ?l1 ?c1 ?k1 ?a2 ?l2 ?c2 ?k2 ?a3 ?l3 ?c3 ?k3 ?a4 ?l4 ?c4 ?k4 ?a5 ?l5 ?c5 ?k5 ?a6 ?l6 ?c6 ?k6 ?a7 ?l7 ?c7 ?k7 ?a8 ?l8 ?c8 ?k8 ?a9 ?l9 ?c9 ?k9 ?a10 ?l10 ?c10 ?k10 ?a11 ?l11 ?c11 ?k11 ?a12 ?l12 ?c12 ?k12 ?a13 ?l13 ?c13 ?k13 ?a14 ?l14 ?c14 ?k14 ?a15 ?l15 ?c15 ?k15 ?a16 ?l16 ?c16 ?k16 ?a17 ?l17 ?c17 ?k17 ?a18 ?l18 ?c18 ?k18 ?a19 ?l19 ?c19 ?k19 ?d19 ?a20 ?l20 ?c20 ?k20 ?d20 ?a21 ?l21 ?c21 ?k21 ?a22 ?l22 ?c22 ?k22 ?a23 ?l23 ?c23 ?k23 ?a24 ?l24 ?c24 ?k24 ?a25 ?l25 ?c25 ?k25 ?a26 ?l26 ?c26 ?k26 ?a27 ?l27 ?c27 ?k27 ?xa_TooMany ?xcl_TooMany ?xty_TooMany ?xbs_TooMany ?xcg ?xct ?xga_TooMany ?xgk_TooMany ?xmB_TooMany ?xca_TooMany ?xmo_TooMany ?xve_TooMany ?xex_TooMany ?z_ValueError ?z_all ?z_bool ?z_int ?z_isinstance ?z_len ?z_list ?z_max ?z_min ?z_range ?z_sorted ?z_sum ?z_tuple
    (case xa_TooMany => k_is)
    (case xcl_TooMany => rfl)
    (case xty_TooMany => k_is)
    (case xbs_TooMany => k_is)
    (case xcg => k_is)
    (case xct => k_is)
    (case xga_TooMany => k_is)
    (case xgk_TooMany => k_is)
    (case xmB_TooMany => k_is)
    (case xca_TooMany => k_is)
    (case xmo_TooMany => k_is)
    (case xve_TooMany => k_is)
    (case xex_TooMany => k_exc)
    (case a0 => k_is)
    (case l0 => k_is)
    (case c0 => k_is)
    (case k0 => k_is)
    (case a1 => k_is)
    (case l1 => k_is)
    (case c1 => k_is)
    (case k1 => k_is)
    (case a2 => k_is)
    (case l2 => k_is)
    (case c2 => k_is)
    (case k2 => k_is)
    (case a3 => k_is)
    (case l3 => k_is)
    (case c3 => k_is)
    (case k3 => k_is)
    (case a4 => k_is)
    (case l4 => k_is)
    (case c4 => k_is)
    (case k4 => k_is)
    (case a5 => k_is)
    (case l5 => k_is)
    (case c5 => k_is)
    (case k5 => k_is)
    (case a6 => k_is)
    (case l6 => k_is)
    (case c6 => k_is)
    (case k6 => k_is)
    (case a7 => k_is)
    (case l7 => k_is)
    (case c7 => k_is)
    (case k7 => k_is)
    (case a8 => k_is)
    (case l8 => k_is)
    (case c8 => k_is)
    (case k8 => k_is)
    (case a9 => k_is)
    (case l9 => k_is)
    (case c9 => k_is)
    (case k9 => k_is)
    (case a10 => k_is)
    (case l10 => k_is)
    (case c10 => k_is)
    (case k10 => k_is)
    (case a11 => k_is)
    (case l11 => k_is)
    (case c11 => k_is)
    (case k11 => k_is)
    (case a12 => k_is)
    (case l12 => k_is)
    (case c12 => k_is)
    (case k12 => k_is)
    (case a13 => k_is)
    (case l13 => k_is)
    (case c13 => k_is)
    (case k13 => k_is)
    (case a14 => k_is)
    (case l14 => k_is)
    (case c14 => k_is)
    (case k14 => k_is)
    (case a15 => k_is)
    (case l15 => k_is)
    (case c15 => k_is)
    (case k15 => k_is)
    (case a16 => k_is)
    (case l16 => k_is)
    (case c16 => k_is)
    (case k16 => k_is)
    (case a17 => k_is)
    (case l17 => k_is)
    (case c17 => k_is)
    (case k17 => k_is)
    (case a18 => k_is)
    (case l18 => k_is)
    (case c18 => k_is)
    (case k18 => k_is)
    (case a19 => k_is)
    (case l19 => k_is)
    (case c19 => k_is)
    (case k19 => k_is)
    (case d19 => k_is)
    (case a20 => k_is)
    (case l20 => k_is)
    (case c20 => k_is)
    (case k20 => k_is)
    (case d20 => k_is)
    (case a21 => k_is)
    (case l21 => k_is)
    (case c21 => k_is)
    (case k21 => k_is)
    (case a22 => k_is)
    (case l22 => k_is)
    (case c22 => k_is)
    (case k22 => k_is)
    (case a23 => k_is)
    (case l23 => k_is)
    (case c23 => k_is)
    (case k23 => k_is)
    (case a24 => k_is)
    (case l24 => k_is)
    (case c24 => k_is)
    (case k24 => k_is)
    (case a25 => k_is)
    (case l25 => k_is)
    (case c25 => k_is)
    (case k25 => k_is)
    (case a26 => k_is)
    (case l26 => k_is)
    (case c26 => k_is)
    (case k26 => k_is)
    (case a27 => k_is)
    (case l27 => k_is)
    (case c27 => k_is)
    (case k27 => k_is)
    (case z_ValueError => k_is)
    (case z_all => k_is)
    (case z_bool => k_is)
    (case z_int => k_is)
    (case z_isinstance => k_is)
    (case z_len => k_is)
    (case z_list => k_is)
    (case z_max => k_is)
    (case z_min => k_is)
    (case z_range => k_is)
    (case z_sorted => k_is)
    (case z_sum => k_is)
    (case z_tuple => k_is)
#print axioms PySem.Challenge.cw_fewnotes_k41_cuts_and_orders_counted_holds
