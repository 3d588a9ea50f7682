import PyProof.Rows.All
import Wide.All
import OpenK.AllK
import Wide.FinOn
import Lean
import PyProof.EqAt
import PyProof.EqKinds
import PyProof.TupleCall
import PyProof.EqLayable
import PyProof.ExcArgsOwn
import PyProof.ExcAttrAll.Exception
import PyProof.RulesAs
import PyProof.ExcBaseAll.ValueError
import PyProof.NsDelKeeps
import KE.KRevSl
import PyProof.TupleIter
import PyProof.ZipIter
import PyProof.DictUpdate
import PyProof.DictTruth
import PyProof.DictDisplay
import KE.KLam
import KE.KNestM
import KE.KMinKey
import KE.KSortKey
import KE.KSortedM
import PySem.Challenge.RW_fewnotes_k32_wants_apart_judged
set_option Elab.async false
set_option linter.all false
set_option maxRecDepth 100000
/-! THE HAND LAYER, for ints, bools, texts, own classes, LISTS and tuples (index, slices, in, append, pop ..), calls, loops. Paste it whole ahead of your own text; what your proof does not reach may be deleted. -/
namespace L2
open PySem PySem.Spec PyProof.Rows

/-- a key: an int or a str -/
abbrev Key := Sum Int Str
def keyIs : Key → Value → Bool
  | .inl k, v => Value.isInt k v
  | .inr x, v => Value.isStrOf x v
def keyH (w : World) : Key → Int
  | .inl k => hashInt k
  | .inr x => hashStr w x
theorem keyIs_shape : ∀ {k : Key} {v : Value}, keyIs k v = true → (∃ i t, k = Sum.inl i ∧ v = Value.int i t) ∨ (∃ x t, k = Sum.inr x ∧ v = Value.str x t)
  | .inl i, v, h => by
    obtain ⟨t, e⟩ := Value.isInt_shape (k := i) (v := v) h
    exact .inl ⟨i, t, rfl, e⟩
  | .inr x, v, h => by
    obtain ⟨t, e⟩ := Value.isStrOf_shape (x := x) (v := v) h
    exact .inr ⟨x, t, rfl, e⟩
theorem keyIs_int (i : Int) (t : Tok) : keyIs (.inl i) (.int i t) = true := by simp [keyIs, Value.isInt]
theorem keyIs_str (x : Str) (t : Tok) : keyIs (.inr x) (.str x t) = true := by simp [keyIs, Value.isStrOf]
theorem key_ll (a b : Int) : decide ((Sum.inl a : Key) = Sum.inl b) = (a == b) := by
  by_cases e : a = b
  · subst e; simp
  · have h : ¬ (Sum.inl a : Key) = Sum.inl b := fun q => e (Sum.inl.inj q)
    rw [decide_eq_false h]
    exact (beq_eq_false_iff_ne.mpr e).symm
theorem key_rr (a b : Str) : decide ((Sum.inr a : Key) = Sum.inr b) = decide (a = b) := by
  by_cases e : a = b
  · subst e; simp
  · have h : ¬ (Sum.inr a : Key) = Sum.inr b := fun q => e (Sum.inr.inj q)
    rw [decide_eq_false h, decide_eq_false e]
theorem key_lr (a : Int) (b : Str) : decide ((Sum.inl a : Key) = Sum.inr b) = false := decide_eq_false (fun q => nomatch q)
theorem key_rl (a : Str) (b : Int) : decide ((Sum.inr a : Key) = Sum.inl b) = false := decide_eq_false (fun q => nomatch q)

def mixKind (prog : Program) (w : World) : PySem.KeyKind prog w Key where
  is := keyIs
  hash := keyH w
  inj := fun v a b ha hb => by
    rcases keyIs_shape ha with ⟨i, t, rfl, rfl⟩ | ⟨x, t, rfl, rfl⟩
    · rcases keyIs_shape hb with ⟨j, u, rfl, e⟩ | ⟨y, u, rfl, e⟩
      · injection e with e1 _; rw [e1]
      · exact nomatch e
    · rcases keyIs_shape hb with ⟨j, u, rfl, e⟩ | ⟨y, u, rfl, e⟩
      · exact nomatch e
      · injection e with e1 _; rw [e1]
  byValue := fun k v h => by
    rcases keyIs_shape h with ⟨i, t, rfl, rfl⟩ | ⟨x, t, rfl, rfl⟩ <;> rfl
  pyHash := fun hv h => by
    rcases keyIs_shape hv with ⟨i, t, rfl, rfl⟩ | ⟨x, t, rfl, rfl⟩
    · exact wpAny_pyHash_int h
    · exact wpAny_pyHash_str h
  eqBool := fun hu hv h => by
    rcases keyIs_shape hu with ⟨i, t, rfl, rfl⟩ | ⟨x, t, rfl, rfl⟩
    · rcases keyIs_shape hv with ⟨j, u, rfl, rfl⟩ | ⟨y, u, rfl, rfl⟩
      · rw [key_ll] at h; exact wpAny_eqBool_int h
      · rw [key_lr] at h; exact SeqAt.EqAt.int_str i t y u _ _ _ _ h
    · rcases keyIs_shape hv with ⟨j, u, rfl, rfl⟩ | ⟨y, u, rfl, rfl⟩
      · rw [key_rl] at h; exact SeqAt.EqAt.str_int x t j u _ _ _ _ h
      · rw [key_rr] at h; exact wpAny_eqBool_str h
  «strs» := fun k x t v h => by
    rcases keyIs_shape h with ⟨i, u, rfl, e⟩ | ⟨y, u, rfl, e⟩
    · exact nomatch e
    · injection e with e1 _
      subst e1
      cases v <;> rfl

theorem mixKind_int (prog : Program) (w : World) (i : Int) (t : Tok) : (mixKind prog w).is (.inl i) (.int i t) = true := keyIs_int i t
theorem mixKind_str (prog : Program) (w : World) (x : Str) (t : Tok) : (mixKind prog w).is (.inr x) (.str x t) = true := keyIs_str x t
end L2

namespace L2
open PySem PySem.Spec PyProof.Rows

/-- a value, without the heap -/
inductive V where
  | non | bl (b : Bool) | int (i : Int) | str (x : Str) | byt (b : Array UInt8) | flt (b : UInt64) | ref (a : Addr) | ty (n : String)
  deriving DecidableEq

def RelV : V → Value → Prop
  | .non, u => u = Value.none
  | .bl b, u => u = Value.bool b
  | .int i, u => ∃ t, u = Value.int i t
  | .str x, u => ∃ t, u = Value.str x t
  | .byt b, u => ∃ t, u = Value.bytes b t
  | .flt b, u => ∃ t, u = Value.float b t
  | .ref a, u => u = Value.ref a
  | .ty n, u => u = Value.type n

abbrev Vals : List V → List Value → Prop := Paired RelV
theorem Vals.length {xs : List V} {us : List Value} (r : Vals xs us) : xs.length = us.length := Paired.length r
theorem Vals.get : ∀ {xs : List V} {us : List Value} {i : Nat} {x : V}, Vals xs us → xs[i]? = some x → ∃ u, us[i]? = some u ∧ RelV x u
  | _, _, _, _, .nil, e => by simp at e
  | _, _, 0, _, .cons r _, e => by simp at e; subst e; exact ⟨_, rfl, r⟩
  | _, _, i + 1, x, .cons _ t, e => by
    obtain ⟨u, h1, h2⟩ := Vals.get (i := i) (x := x) t (by simpa using e)
    exact ⟨u, by simpa using h1, h2⟩
theorem Vals.set {x : V} {u : Value} (r : RelV x u) : ∀ {xs : List V} {us : List Value} (i : Nat), Vals xs us → Vals (xs.set i x) (us.set i u)
  | _, _, _, .nil => .nil
  | _, _, 0, .cons _ t => .cons r t
  | _, _, i + 1, .cons q t => .cons q (Vals.set r i t)
theorem Vals.append {xs ys : List V} {us ws : List Value} (h : Vals xs us) (s : Vals ys ws) : Vals (xs ++ ys) (us ++ ws) := by
  induction h with
  | nil => exact s
  | cons r t ih => exact .cons r ih
theorem Vals.take : ∀ {xs : List V} {us : List Value} (n : Nat), Vals xs us → Vals (xs.take n) (us.take n)
  | _, _, 0, _ => .nil
  | _, _, _ + 1, .nil => .nil
  | _, _, n + 1, .cons r t => .cons r (Vals.take n t)
theorem Vals.drop : ∀ {xs : List V} {us : List Value} (n : Nat), Vals xs us → Vals (xs.drop n) (us.drop n)
  | _, _, 0, r => r
  | _, _, _ + 1, .nil => .nil
  | _, _, n + 1, .cons _ t => Vals.drop n t
def RelO : Option V → Option Value → Prop
  | some v, some u => RelV v u
  | none, none => True
  | _, _ => False
def KV {κ : Type} : List (κ × V) → List (κ × Value) → Prop := Paired fun (p : κ × V) (q : κ × Value) => p.1 = q.1 ∧ RelV p.2 q.2

/-- a key of a dict (00_mix): an int or a text -/
def kV : Key → V
  | .inl i => .int i
  | .inr x => .str x

/-- what stands at a tracked address -/
inductive HO where
  /-- a list -/
  | lst (xs : List V)
  /-- a tuple (never changes) -/
  | tup (xs : List V)
  /-- a dict whose keys are ints and texts; one whose keys are tuples of ints and texts (the empty one is both) -/
  | dK (kvs : List (Key × V)) | dT (kvs : List (List Key × V))
  /-- a set of ints: its members, its size -/
  | set (S : Int → Bool) (n : Nat)
  /-- an instance of the class at C, its dict at dx, its attributes -/
  | ins (C dx : Addr) (fs : List (Str × V))
  /-- the dict of the instance at x -/
  | own (x : Addr)
  /-- the dict of an exception -/
  | xd (fs : List (Str × V))
  /-- a bound method, f of x -/
  | met (f x : Addr)
  /-- a range object lo, lo + 1, .. below hi -/
  | rng (lo hi : Int)
  /-- a thing that is known to the object (the script; a dict while a loop walks it): read, never written while it is so -/
  | frz (o : Obj) (u : HO)
  /-- a code object's table -/
  | tbl (ps : Array Value)
  /-- any other thing, by what is true of its one object (a def of one's own: SetO a S n := HO.ext fun h => ..) -/
  | ext (φ : Heap → Prop)

abbrev Hp := Addr → Option HO
def upd (H : Hp) (a : Addr) (o : HO) : Hp := fun b => if b = a then some o else H b
theorem upd_same {H : Hp} {a : Addr} {o : HO} : upd H a o a = some o := by unfold upd; rw [if_pos rfl]
theorem upd_ne {H : Hp} {a b : Addr} {o : HO} (h : b ≠ a) : upd H a o b = H b := by unfold upd; rw [if_neg h]
theorem upd_upd {H : Hp} {a : Addr} {o u : HO} : upd (upd H a o) a u = upd H a u := by
  funext b; unfold upd; split <;> rfl
/-- two objects of different content stand apart -/
theorem ne_of {H : Hp} {a b : Addr} {o u : HO} (h : H a = some o) (h' : H b = some u) (d : o ≠ u) : a ≠ b := by
  intro e; subst e; rw [h] at h'; exact d (Option.some.inj h')
theorem ne_of_none {H : Hp} {a b : Addr} {o : HO} (h : H a = some o) (h' : H b = none) : a ≠ b := by
  intro e; subst e; rw [h] at h'; cases h'

section
variable (P : Program) (w : World)
def ObjOk (H : Hp) (h : Heap) (a : Addr) : HO → Prop
  | .lst xs => xs.length ≤ sizeLine ∧ ∃ (its : List Value) (n : Nat), Vals xs its ∧ h.get? a = some { cls := .type "list", data := .seq its.toArray n }
  | .tup xs => xs.length ≤ sizeLine ∧ ∃ its : List Value, Vals xs its ∧ IsTup h a its.toArray
  | .dK kvs => kvs.length ≤ sizeLine ∧ (a == sysModules) = false ∧ ∃ vs, KV kvs vs ∧ h.DictOf (mixKind P w) a vs
  | .dT kvs => kvs.length ≤ sizeLine ∧ (a == sysModules) = false ∧ ∃ xs : List (List Key × Addr × Value),
      Paired (fun (p : List Key × V) (q : List Key × Addr × Value) => p.1 = q.1 ∧ H q.2.1 = some (.tup (p.1.map kV)) ∧ RelV p.2 q.2.2) kvs xs ∧
      ∃ o es ep, h.get? a = some o ∧ o.ExactDict ∧ o.data = .dict es ep ∧ es.toList = xs.map (entryOfKey (tupleKind (mixKind P w))) ∧ (xs.map (·.1)).Nodup
  | .set S n => h.SetOf (intKind P w) a S n
  | .ins C dx fs => H dx = some (.own a) ∧ fs.length ≤ 1000 ∧ dx ≠ a ∧ h.get? a = some (PySem.W.instObj C dx) ∧
      ∃ mA, h.Ns1 dx mA ∧ (∀ f, RelO (fs.lookup f) (mA f)) ∧ PySem.Within mA (fs.map (·.1))
  | .own _ => ∃ o, h.get? a = some o
  | .xd fs => ∃ mA, h.Ns1 a mA ∧ ∀ f, RelO (fs.lookup f) (mA f)
  | .rng lo hi => ∃ t u v, h.get? a = some { cls := .type "range", data := .fields #[.int lo t, .int hi u, .int 1 v] }
  | .frz o u => h.get? a = some o ∧ ObjOk H h a u
  | .tbl ps => h.get? a = some { cls := .none, data := .fields ps }
  | .met f x => h.get? a = some (PySem.W.methodObj (.ref f) (.ref x))
  | .ext φ => φ h ∧ (∃ o, h.get? a = some o) ∧ ∀ h1 h2 : Heap, φ h1 → (∀ o, h1.get? a = some o → h2.get? a = some o) → φ h2
/-- the abstract heap is held -/
def HOk (H : Hp) (h : Heap) : Prop := ∀ a o, H a = some o → ObjOk P w H h a o
end

section
variable {P : Program} {w : World} {H H' : Hp} {h h' : Heap} {a : Addr} {o : HO}
theorem ObjOk.lt (x : ObjOk P w H h a o) : a < h.objs.size := by
  cases o with
  | lst xs => obtain ⟨_, _, _, _, e⟩ := x; exact Heap.lt_size e
  | tup xs => obtain ⟨_, _, _, p⟩ := x; exact p.lt
  | dK kvs => obtain ⟨_, _, _, _, o, _, _, e, _⟩ := x; exact Heap.lt_size e
  | dT kvs => obtain ⟨_, _, _, _, o, _, _, e, _⟩ := x; exact Heap.lt_size e
  | set S n => obtain ⟨o, _, _, _, e, _⟩ := x; exact Heap.lt_size e
  | ins C dx fs => obtain ⟨_, _, _, e, _⟩ := x; exact Heap.lt_size e
  | own y => obtain ⟨_, e⟩ := x; exact Heap.lt_size e
  | xd fs => obtain ⟨_, ⟨_, _, _, e, _⟩, _⟩ := x; exact Heap.lt_size e
  | rng lo hi => obtain ⟨_, _, _, e⟩ := x; exact Heap.lt_size e
  | frz ob u => obtain ⟨e, _⟩ := x; exact Heap.lt_size e
  | tbl ps => exact Heap.lt_size (show h.get? a = some _ from x)
  | met f y => exact Heap.lt_size (show h.get? a = some _ from x)
  | ext φ => obtain ⟨_, ⟨_, e⟩, _⟩ := x; exact Heap.lt_size e
theorem Paired.mapP {α β : Type} {F G : α → β → Prop} : ∀ {l₁ : List α} {l₂ : List β}, Paired F l₁ l₂ → (∀ a b, F a b → G a b) → Paired G l₁ l₂
  := by
  intro l₁ l₂ h f
  induction h with
  | nil => exact .nil
  | cons r t ih => exact .cons (f _ _ r) ih
/-- what an object's description leans on: its own object, its own dict, the tuples -/
theorem ObjOk.stay (x : ObjOk P w H h a o) (k : ∀ b u, (b = a ∨ H b = some (.own a)) → h.get? b = some u → h'.get? b = some u)
    (ho : ∀ b, H b = some (.own a) → H' b = some (.own a)) (ht : ∀ b xs, H b = some (.tup xs) → H' b = some (.tup xs)) : ObjOk P w H' h' a o := by
  induction o with
  | lst xs => obtain ⟨z, its, n, r, e⟩ := x; exact ⟨z, its, n, r, k _ _ (.inl rfl) e⟩
  | tup xs => obtain ⟨z, its, r, ob, e, c⟩ := x; exact ⟨z, its, r, ob, k _ _ (.inl rfl) e, c⟩
  | dK kvs => obtain ⟨z, y, vs, r, ob, es, ep, e, c⟩ := x; exact ⟨z, y, vs, r, ob, es, ep, k _ _ (.inl rfl) e, c⟩
  | dT kvs =>
    obtain ⟨z, y, xs, r, ob, es, ep, e, c⟩ := x
    exact ⟨z, y, xs, Paired.mapP r fun p q z => ⟨z.1, ht _ _ z.2.1, z.2.2⟩, ob, es, ep, k _ _ (.inl rfl) e, c⟩
  | set S n => obtain ⟨ob, es, ep, t, e, c⟩ := x; exact ⟨ob, es, ep, t, k _ _ (.inl rfl) e, c⟩
  | ins C dx fs =>
    obtain ⟨d, z, ne, e, mA, ⟨od, es, ep, e2, c⟩, r⟩ := x
    exact ⟨ho _ d, z, ne, k _ _ (.inl rfl) e, mA, ⟨od, es, ep, k _ _ (.inr d) e2, c⟩, r⟩
  | own y => obtain ⟨ob, e⟩ := x; exact ⟨ob, k _ _ (.inl rfl) e⟩
  | xd fs => obtain ⟨mA, ⟨od, es, ep, e, c⟩, r⟩ := x; exact ⟨mA, ⟨od, es, ep, k _ _ (.inl rfl) e, c⟩, r⟩
  | rng lo hi => obtain ⟨t, u, v, e⟩ := x; exact ⟨t, u, v, k _ _ (.inl rfl) e⟩
  | frz ob u ih => obtain ⟨e, q⟩ := x; exact ⟨k _ _ (.inl rfl) e, ih q⟩
  | tbl ps =>
    have e : h.get? a = some { cls := .none, data := .fields ps } := x
    show h'.get? a = some { cls := .none, data := .fields ps }
    exact k a _ (.inl rfl) e
  | met f y =>
    have e : h.get? a = some (PySem.W.methodObj (.ref f) (.ref y)) := x
    show h'.get? a = some (PySem.W.methodObj (.ref f) (.ref y))
    exact k a _ (.inl rfl) e
  | ext φ => obtain ⟨p, ⟨o, e⟩, st⟩ := x; exact ⟨st _ _ p fun o q => k _ _ (.inl rfl) q, ⟨o, k _ _ (.inl rfl) e⟩, st⟩
theorem HOk.lt (x : HOk P w H h) (e : H a = some o) : a < h.objs.size := (x a o e).lt
theorem HOk.fresh (x : HOk P w H h) (e : h.objs.size ≤ a) : H a = none := by
  cases q : H a with
  | none => rfl
  | some u => exact absurd (Nat.lt_of_lt_of_le (x.lt q) e) (Nat.lt_irrefl _)
/-- every object of the heap is kept -/
theorem HOk.kept (x : HOk P w H h) (k : ∀ b u, h.get? b = some u → h'.get? b = some u) : HOk P w H h' := fun a o e =>
  (x a o e).stay (fun b u _ q => k b u q) (fun _ q => q) fun _ _ q => q
/-- a new object is laid and tracked -/
theorem HOk.laid (x : HOk P w H h) (k : ∀ b u, h.get? b = some u → h'.get? b = some u) (hp : h.objs.size ≤ a) (new : ObjOk P w (upd H a o) h' a o) : HOk P w (upd H a o) h' := fun b u e => by
  have hn := x.fresh hp
  by_cases hb : b = a
  · subst hb; rw [upd_same] at e; cases e; exact new
  · rw [upd_ne hb] at e
    exact (x b u e).stay (fun c v _ q => k c v q) (fun c q => by rw [upd_ne (ne_of_none q hn)]; exact q) fun c xs q => by rw [upd_ne (ne_of_none q hn)]; exact q
end

/-- what may be read as u: it is u, or a known u -/
def Rd (H : Hp) (a : Addr) (u : HO) : Prop := H a = some u ∨ ∃ o, H a = some (.frz o u)
theorem Rd.ok {P : Program} {w : World} {H : Hp} {h : Heap} {a : Addr} {u : HO} (r : Rd H a u) (x : HOk P w H h) : ObjOk P w H h a u := by
  rcases r with r | ⟨o, r⟩
  · exact x a u r
  · obtain ⟨_, q⟩ := x a _ r
    exact q
/-- what may be written -/
def Mut : Option HO → Prop
  | some (.lst _) => True
  | some (.dK _) => True
  | some (.dT _) => True
  | some (.set _ _) => True
  | some (.ins _ _ _) => True
  | some (.ext _) => True
  | _ => False
section
variable {P : Program} {w : World} {H : Hp} {h h' : Heap} {x e : Addr} {o' : HO}
/-- the object at e is changed: x itself, or the dict of the instance x -/
theorem HOk.write (ok : HOk P w H h) (mu : Mut (H x)) (he : e = x ∨ H e = some (.own x)) (k : ∀ b u, b ≠ e → h.get? b = some u → h'.get? b = some u) (heo : ∃ u, h'.get? e = some u)
    (new : ObjOk P w (upd H x o') h' x o') : HOk P w (upd H x o') h' := fun b u q => by
  have nown : ∀ c y, H c = some (.own y) → c ≠ x := fun c y r z => by subst z; rw [r] at mu; exact mu
  have ntup : ∀ c xs, H c = some (.tup xs) → c ≠ x := fun c xs r z => by subst z; rw [r] at mu; exact mu
  by_cases hb : b = x
  · subst hb; rw [upd_same] at q; cases q; exact new
  · rw [upd_ne hb] at q
    by_cases hbe : b = e
    · have q' : H b = some (.own x) := by
        rcases he with z | z
        · exact absurd (hbe.trans z) hb
        · rw [hbe]; exact z
      rw [q] at q'; cases q'
      obtain ⟨v, hv⟩ := heo
      exact ⟨v, by rw [hbe]; exact hv⟩
    · refine (ok b u q).stay (fun c v hc r => k c v ?_ r) (fun c r => by rw [upd_ne (nown c b r)]; exact r) fun c xs r => by rw [upd_ne (ntup c xs r)]; exact r
      rcases hc with rfl | hc
      · exact hbe
      · rintro rfl
        rcases he with z | z
        · exact nown c b hc z
        · rw [hc] at z; cases z; exact hb rfl
end

/-! ### kept unless tracked; of the frames at fs (the callers') the slots may change (an exception that passes writes there); of the records at ex (iterators) nothing is said -/
structure Un (fs ex : List Addr) (H H' : Hp) (h h' : Heap) : Prop where
  keep : ∀ b o, h.get? b = some o → H b = none → b ∉ fs → b ∉ ex → h'.get? b = some o
  slot : ∀ b o, h.get? b = some o → H b = none → b ∈ fs → b ∉ ex → ∃ sl, h'.get? b = some { o with slots := sl }
  free : ∀ b o, h.get? b = some o → H b = none → b ∉ ex → H' b = none
  there : ∀ b o, h.get? b = some o → b ∉ ex → ∃ o', h'.get? b = some o'
  tups : ∀ b xs, H b = some (.tup xs) → H' b = some (.tup xs)
  frzs : ∀ b o u, H b = some (.frz o u) → H' b = some (.frz o u)
  tbls : ∀ b ps, H b = some (.tbl ps) → ∃ more, H' b = some (.tbl (ps ++ more))
section
variable {fs fs' ex ex' : List Addr} {H H1 H2 : Hp} {h h1 h2 h' : Heap} {a x e : Addr} {o : HO}
theorem Un.any (u : Un fs ex H H1 h h1) {b : Addr} {ob : Obj} (q : h.get? b = some ob) (n : H b = none) (hx : b ∉ ex) : ∃ sl, h1.get? b = some { ob with slots := sl } := by
  by_cases hb : b ∈ fs
  · exact u.slot b ob q n hb hx
  · exact ⟨ob.slots, u.keep b ob q n hb hx⟩
theorem Un.kept (k : ∀ b u, h.get? b = some u → h'.get? b = some u) : Un fs ex H H h h' :=
  ⟨fun b ob q _ _ _ => k b ob q, fun b ob q _ _ _ => ⟨ob.slots, k b ob q⟩, fun _ _ _ n _ => n, fun b ob q _ => ⟨ob, k b ob q⟩, fun _ _ q => q, fun _ _ _ q => q, fun _ ps q => ⟨#[], by rw [q]; simp⟩⟩
theorem Un.refl : Un fs ex H H h h := Un.kept fun _ _ q => q
theorem Un.laid (k : ∀ b u, h.get? b = some u → h'.get? b = some u) (hp : h.objs.size ≤ a) (hn : H a = none) : Un fs ex H (upd H a o) h h' where
  keep := fun b u q _ _ _ => k b u q
  slot := fun b u q _ _ _ => ⟨u.slots, k b u q⟩
  free := fun b u q n _ => by rw [upd_ne (Nat.ne_of_lt (Nat.lt_of_lt_of_le (Heap.lt_size q) hp))]; exact n
  there := fun b u q _ => ⟨u, k b u q⟩
  tups := fun b xs q => by rw [upd_ne (ne_of_none q hn)]; exact q
  frzs := fun b u xs q => by rw [upd_ne (ne_of_none q hn)]; exact q
  tbls := fun b ps q => ⟨#[], by rw [upd_ne (ne_of_none q hn), q]; simp⟩
theorem Un.write (mu : Mut (H x)) (he : e = x ∨ H e = some (.own x)) (k : ∀ b u, b ≠ e → h.get? b = some u → h'.get? b = some u) (heo : ∃ u, h'.get? e = some u) : Un fs ex H (upd H x o) h h' := by
  have hx : ∀ b, H b = none → b ≠ x := fun b n z => by subst z; rw [n] at mu; exact mu
  have hb : ∀ b, H b = none → b ≠ e := fun b n z => by
    subst z
    rcases he with r | r
    · exact hx b n r
    · rw [n] at r; cases r
  have hm : ∀ b u, H b = some u → ¬ Mut (some u) → b ≠ x := fun b u q nm z => by subst z; rw [q] at mu; exact nm mu
  refine ⟨fun b u q n _ _ => k b u (hb b n) q, fun b u q n _ _ => ⟨u.slots, k b u (hb b n) q⟩, fun b u q n _ => by rw [upd_ne (hx b n)]; exact n, fun b u q _ => ?_,
    fun b xs q => by rw [upd_ne (hm b _ q fun z => z)]; exact q, fun b u xs q => by rw [upd_ne (hm b _ q fun z => z)]; exact q, fun b ps q => ⟨#[], by rw [upd_ne (hm b _ q fun z => z), q]; simp⟩⟩
  by_cases hbe : b = e
  · subst hbe; exact heo
  · exact ⟨u, k b u hbe q⟩
end

/-! ### the heap without what is tracked -/
def trk (h : Heap) (H : Hp) : List Addr := (List.range h.objs.size).filter fun a => (H a).isSome
def hidT (h : Heap) (H : Hp) : Heap := PySem.W.hideAll h (trk h H)
theorem hidT_size (h : Heap) (H : Hp) : (hidT h H).objs.size = h.objs.size := PySem.W.hideAll_size _ _
theorem hidT_get {h : Heap} {H : Hp} {b : Addr} {o : Obj} (e : h.get? b = some o) (n : H b = none) : (hidT h H).get? b = some o :=
  PySem.W.hideAll_get _ e fun hm => by
    have q : (H b).isSome = true := (List.mem_filter.mp hm).2
    rw [n] at q; simp at q
theorem of_hidT {h : Heap} {H : Hp} {b : Addr} {o : Obj} (e : (hidT h H).get? b = some o) : h.get? b = some o ∧ H b = none := by
  have e' : h.get? b = some o := PySem.W.of_hideAll (trk h H) e
  refine ⟨e', ?_⟩
  cases q : H b with
  | none => rfl
  | some x =>
    have hm : b ∈ trk h H := List.mem_filter.mpr ⟨List.mem_range.mpr (Heap.lt_size e'), by simp [q]⟩
    have z : (hidT h H).get? b = none := PySem.W.hideAll_none (trk h H) hm
    rw [z] at e; cases e

/-! ### OpenK's ledger, filled with every new object but one -/
def allNews (g h : Heap) (L : Addr) : List (Addr × Obj) := (List.range h.objs.size).filterMap fun a => if a = L ∨ (g.get? a).isSome = true then none else (h.get? a).map fun o => (a, o)
def rest (g h : Heap) (L d : Addr) : List (Addr × Obj) := (allNews g h L).filter fun p => decide (p.1 ≠ d)
end L2

namespace L2
open PySem PySem.Spec PyProof.Rows

/-- the module's facts, over the base: the heap at the law's entry without what is tracked there -/
structure Mod (K : PySem.W.Frag) (mg : Str → Option Value) (base : Heap) : Prop where
  kin : K.In base
  glob : base.Ns mainGlobals mg
  blt : ∃ mb, base.Ns builtinsNs mb ∧ ∀ x : Str, x ≠ "__name__" → mb x = bootBuiltins x
  nolimit : base.NoLimit

/-- the context: a def's body (or a comprehension's block) running. base: fixed through the whole law; s₀, H₀: the entry; outer: the frames whose slots others may change (a def's callers); stack: all frames that run;
   ex: iterators that were made ahead of the entry and are walked here (a comprehension's); fn: the names whose cells were made at the entry (a def: all; a comprehension's block: its own); calm: not within an except suite; pn: pins that every state bears; xe: what is wanted of an exception that leaves the code -/
structure Cx where
  prog : Program
  w : World
  K : PySem.W.Frag
  mg : Str → Option Value
  base : Heap
  A : Around
  N : List Str
  s₀ : Shared
  H₀ : Hp
  env : Env
  outer : List Env
  stack : List Env
  ex : List Addr
  fn : Str → Bool
  calm : Bool
  pn : List (Addr × Obj)
  xe : Value → Shared → Prop
/-- the callers' frames -/
def frs (l : List Env) : List Addr := l.filterMap (·.frame)
abbrev Cx.fs (X : Cx) : List Addr := frs X.outer

def Vis (sc : Scope) (x : Str) : Prop := sc.names.lookup x = some .local ∨ sc.names.lookup x = some .cell ∨ sc.names.lookup x = some .free
def Loc (sc : Scope) (x : Str) : Prop := sc.names.lookup x = some .local ∨ sc.names.lookup x = some .cell
def Look (env : Env) (h : Heap) (m : Str → Option Value) (x : Str) (u : Value) : Prop :=
  (env.kindOf x = some .local ∧ m x = some u) ∨ ((env.kindOf x = some .cell ∨ env.kindOf x = some .free) ∧ ∃ c, env.cells.lookup x = some c ∧ h.IsCell c (some u))

structure Cx.Ok (X : Cx) : Prop where
  mod : Mod X.K X.mg X.base
  kind : X.env.scope.kind = .function
  glob : X.env.globals = mainGlobals
  blt : X.env.builtins = builtinsNs
  above : X.s₀.heap.objs.size ≤ X.env.locals
  inj : ∀ x y c, X.env.cells.lookup x = some c → X.env.cells.lookup y = some c → x = y
  has : ∀ x, (X.env.kindOf x = some .cell ∨ X.env.kindOf x = some .free) → ∃ c, X.env.cells.lookup x = some c
  cab : ∀ x c, X.fn x = true → X.env.cells.lookup x = some c → X.s₀.heap.objs.size ≤ c
  hd : X.calm = true → X.A.handled = none
  frames : X.A.frames = some X.stack
  stk : X.stack = X.outer ∨ (X.stack = X.env :: X.outer ∧ X.env.frame = some X.env.locals)
  exf : ∀ b ∈ X.ex, b ≠ X.env.locals ∧ ∀ x c, X.env.cells.lookup x = some c → c ≠ b
  bs : ∀ b o, X.base.get? b = some o → X.s₀.heap.get? b = some o ∧ X.H₀ b = none
  bsz : X.base.objs.size ≤ X.s₀.heap.objs.size
  noex : ∀ b o, X.base.get? b = some o → b ∉ X.ex
  exfs : ∀ b ∈ X.ex, b ∉ X.fs
  funs : X.s₀.heap.FunFrames X.base X.outer
  frf : ∀ b ∈ X.fs, X.H₀ b = none

structure Inv (X : Cx) (pins : List (Addr × Obj)) (σ : List (Option V)) (H : Hp) (s : Shared) : Prop where
  ok : X.Ok
  os : s.os = X.s₀.os
  bare : AllBare s.gens
  base : Un X.fs X.ex X.H₀ H X.s₀.heap s.heap
  loc : ∃ m, s.heap.Ns X.env.locals m ∧ ∀ (i : Nat) (x : Str) (v : V), X.N[i]? = some x → σ[i]? = some (some v) → Vis X.env.scope x → ∃ u, RelV v u ∧ Look X.env s.heap m x u
  cell : ∀ x c, X.env.cells.lookup x = some c → ∃ v, s.heap.IsCell c v
  free : H X.env.locals = none
  freeC : ∀ x c, X.env.cells.lookup x = some c → H c = none
  pin : ∀ p ∈ X.pn ++ pins, s.heap.get? p.1 = some p.2 ∧ H p.1 = none ∧ p.1 ≠ X.env.locals ∧ p.1 ∉ X.fs ∧ ∀ v, p.2.data ≠ .cell v
  hok : HOk X.prog X.w H s.heap
  len : σ.length = X.N.length

section
variable {X : Cx} {pins : List (Addr × Obj)} {σ : List (Option V)} {H H' : Hp} {s : Shared} {h' : Heap}

theorem Cx.Ok.nofr (ok : X.Ok) {b : Addr} {o : Obj} (e : X.base.get? b = some o) : b ∉ X.fs := fun hb => by
  have := (ok.funs.mem hb).1
  rw [e] at this; cases this
theorem Inv.bs (I : Inv X pins σ H s) : ∀ b o, X.base.get? b = some o → s.heap.get? b = some o ∧ H b = none := fun b o e =>
  ⟨I.base.keep b o (I.ok.bs b o e).1 (I.ok.bs b o e).2 (I.ok.nofr e) (I.ok.noex b o e), I.base.free b o (I.ok.bs b o e).1 (I.ok.bs b o e).2 (I.ok.noex b o e)⟩
theorem Inv.bk (I : Inv X pins σ H s) : ∀ b o, X.base.get? b = some o → s.heap.get? b = some o := fun b o e => (I.bs b o e).1
theorem Inv.mod (I : Inv X pins σ H s) : Mod X.K X.mg X.base := I.ok.mod
theorem Inv.kIn (I : Inv X pins σ H s) : X.K.In s.heap := I.ok.mod.kin.keeps I.bk
theorem Inv.lt (I : Inv X pins σ H s) : X.env.locals < s.heap.objs.size := let ⟨_, hn, _⟩ := I.loc; hn.lt
theorem Inv.sz (I : Inv X pins σ H s) : X.s₀.heap.objs.size ≤ s.heap.objs.size := Nat.le_trans I.ok.above (Nat.le_of_lt I.lt)
theorem Inv.nofs (I : Inv X pins σ H s) {a : Addr} (h : s.heap.objs.size ≤ a) : a ∉ X.fs := fun hb => by
  obtain ⟨_, o, ho, _⟩ := I.ok.funs.mem hb
  exact absurd (Nat.lt_of_lt_of_le (Heap.lt_size ho) (Nat.le_trans I.sz h)) (Nat.lt_irrefl _)
theorem Inv.cne (I : Inv X pins σ H s) : ∀ x c, X.env.cells.lookup x = some c → c ≠ X.env.locals := fun x c e z => by
  obtain ⟨v, o, ho, hd⟩ := I.cell x c e
  obtain ⟨m, ⟨o', es, ep, ho', hd', _⟩, _⟩ := I.loc
  rw [z, ho'] at ho; cases ho; rw [hd'] at hd; cases hd
theorem Inv.funs (I : Inv X pins σ H s) : s.heap.FunFrames X.base X.outer := by
  have all : ∀ (l : List Env), (∀ b ∈ frs l, b ∈ X.fs) → X.s₀.heap.FunFrames X.base l → s.heap.FunFrames X.base l := by
    intro l
    induction l with
    | nil => intro _ _; trivial
    | cons env r ih =>
      intro hs hl
      obtain ⟨hk, ⟨L, o, hf, hn, ho, hd⟩, hr⟩ := hl
      have hL : L ∈ X.fs := hs L (by unfold frs; rw [List.filterMap_cons, hf]; exact List.mem_cons_self)
      obtain ⟨sl, e⟩ := I.base.slot L o ho (I.ok.frf L hL) hL fun z => I.ok.exfs L z hL
      exact ⟨hk, ⟨L, _, hf, hn, e, hd⟩, ih (fun b hb => hs b (by unfold frs; rw [List.filterMap_cons, hf]; exact List.mem_cons_of_mem _ hb)) hr⟩
  exact all X.outer (fun _ hb => hb) I.ok.funs

/-- the frames that run, for a call -/
theorem Inv.stack (I : Inv X pins σ H s) : s.heap.FunFrames X.base X.stack := by
  rcases I.ok.stk with e | ⟨e, hf⟩
  · rw [e]; exact I.funs
  · rw [e]
    obtain ⟨m, hn, _⟩ := I.loc
    refine .cons (by rw [I.ok.kind]; decide) hf hn ?_ I.funs
    exact Heap.get?_none_of_le (Nat.le_trans I.ok.bsz I.ok.above)
theorem Inv.stkSub (I : Inv X pins σ H s) : ∀ b ∈ frs X.stack, b ∈ X.env.locals :: X.fs := fun b hb => by
  rcases I.ok.stk with e | ⟨e, hf⟩
  · rw [e] at hb; exact List.mem_cons_of_mem _ hb
  · rw [e] at hb
    unfold frs at hb
    rw [List.filterMap_cons, hf] at hb
    exact hb
theorem Inv.stkFree (I : Inv X pins σ H s) : ∀ b ∈ frs X.stack, H b = none := fun b hb => by
  rcases List.mem_cons.mp (I.stkSub b hb) with e | hb
  · rw [e]; exact I.free
  · obtain ⟨_, o, ho, _⟩ := I.ok.funs.mem hb
    exact I.base.free b o ho (I.ok.frf b hb) fun z => I.ok.exfs b z hb

/-- THE STEP: the untracked objects but the frame and the records at ch are kept (the callers' frames up to slots), the frame's map is kept, the new abstract heap is held -/
theorem Inv.step {g' : Array GenState} {t' : Nat} {d' : Drawn} {ch : List Addr} (I : Inv X pins σ H s)
    (hch : ∀ b ∈ ch, (b ∈ X.ex ∨ X.s₀.heap.objs.size ≤ b) ∧ b ≠ X.env.locals ∧ (∀ x c, X.env.cells.lookup x = some c → c ≠ b) ∧ ∀ p ∈ X.pn ++ pins, p.1 ≠ b)
    (keep : ∀ b o, b ≠ X.env.locals → b ∉ X.fs → b ∉ ch → s.heap.get? b = some o → H b = none → h'.get? b = some o)
    (slot : ∀ b o, b ≠ X.env.locals → b ∈ X.fs → b ∉ ch → s.heap.get? b = some o → H b = none → ∃ sl, h'.get? b = some { o with slots := sl }) (free : ∀ b o, b ∉ ch → s.heap.get? b = some o → H b = none → H' b = none)
    (there : ∀ b o, b ∉ ch → s.heap.get? b = some o → ∃ o', h'.get? b = some o')
    (tups : ∀ b xs, H b = some (.tup xs) → H' b = some (.tup xs)) (frzs : ∀ b o u, H b = some (.frz o u) → H' b = some (.frz o u)) (tbls : ∀ b ps, H b = some (.tbl ps) → ∃ more, H' b = some (.tbl (ps ++ more)))
    (ns : ∀ m, s.heap.Ns X.env.locals m → h'.Ns X.env.locals m) (hok : HOk X.prog X.w H' h') (hg : AllBare g') :
    Inv X pins σ H' { s with heap := h', gens := g', drawn := d', toks := t' } := by
  have neL : ∀ b o, X.s₀.heap.get? b = some o → b ≠ X.env.locals := fun b o e => Nat.ne_of_lt (Nat.lt_of_lt_of_le (Heap.lt_size e) I.ok.above)
  have neC : ∀ b o, X.s₀.heap.get? b = some o → b ∉ X.ex → b ∉ ch := fun b o e hx hb => by
    rcases (hch b hb).1 with z | z
    · exact hx z
    · exact absurd (Nat.lt_of_lt_of_le (Heap.lt_size e) z) (Nat.lt_irrefl _)
  have cellK : ∀ x c, X.env.cells.lookup x = some c → ∀ v, s.heap.IsCell c v → h'.IsCell c v := fun x c e v ⟨o, ho, hd⟩ => by
    have nch : c ∉ ch := fun z => (hch c z).2.2.1 x c e rfl
    by_cases hc : c ∈ X.fs
    · obtain ⟨sl, q⟩ := slot c o (I.cne x c e) hc nch ho (I.freeC x c e)
      exact ⟨_, q, hd⟩
    · exact ⟨o, keep c o (I.cne x c e) hc nch ho (I.freeC x c e), hd⟩
  refine ⟨I.ok, I.os, hg, ⟨fun b o e n hb hx => ?_, fun b o e n hb hx => ?_, fun b o e n hx => ?_, fun b o e hx => ?_, fun b xs e => tups b xs (I.base.tups b xs e), fun b o xs e => frzs b o xs (I.base.frzs b o xs e), fun b ps e => ?_⟩, ?_, fun x c e => ?_, ?_, fun x c e => ?_, fun p hp => ?_, hok, I.len⟩
  · exact keep b o (neL b o e) hb (neC b o e hx) (I.base.keep b o e n hb hx) (I.base.free b o e n hx)
  · obtain ⟨sl, e1⟩ := I.base.slot b o e n hb hx
    obtain ⟨sl', e2⟩ := slot b _ (neL b o e) hb (neC b o e hx) e1 (I.base.free b o e n hx)
    exact ⟨sl', e2⟩
  · obtain ⟨o', e1⟩ := I.base.there b o e hx
    exact free b o' (neC b o e hx) e1 (I.base.free b o e n hx)
  · obtain ⟨o', e1⟩ := I.base.there b o e hx
    exact there b o' (neC b o e hx) e1
  · obtain ⟨m1, e1⟩ := I.base.tbls b ps e
    obtain ⟨m2, e2⟩ := tbls b _ e1
    exact ⟨m1 ++ m2, by rw [e2, Array.append_assoc]⟩
  · obtain ⟨m, hn, hl⟩ := I.loc
    refine ⟨m, ns m hn, fun i x v e1 e2 e3 => ?_⟩
    obtain ⟨u, r, l⟩ := hl i x v e1 e2 e3
    refine ⟨u, r, ?_⟩
    rcases l with l | ⟨k, c, e, z⟩
    · exact .inl l
    · exact .inr ⟨k, c, e, cellK x c e _ z⟩
  · obtain ⟨v, z⟩ := I.cell x c e
    exact ⟨v, cellK x c e v z⟩
  · obtain ⟨m, ⟨o, _, _, ho, _⟩, _⟩ := I.loc
    exact free _ o (fun z => (hch _ z).2.1 rfl) ho I.free
  · obtain ⟨v, o, ho, hd⟩ := I.cell x c e
    exact free c o (fun z => (hch c z).2.2.1 x c e rfl) ho (I.freeC x c e)
  · obtain ⟨e, n, ne, nf, d⟩ := I.pin p hp
    have nch : p.1 ∉ ch := fun z => (hch p.1 z).2.2.2 p hp rfl
    exact ⟨keep p.1 p.2 ne nf nch e n, free p.1 p.2 nch e n, ne, nf, d⟩
/-- .. where the frame's own object is kept too -/
theorem Inv.un {t' : Nat} (I : Inv X pins σ H s) (u : Un X.fs [] H H' s.heap h') (hok : HOk X.prog X.w H' h') : Inv X pins σ H' { s with heap := h', toks := t' } := by
  obtain ⟨m, ⟨o, es, ep, ho, r⟩, _⟩ := id I.loc
  obtain ⟨sl, hL⟩ := u.any ho I.free (by simp)
  exact I.step (g' := s.gens) (d' := s.drawn) (ch := []) (fun _ z => nomatch z) (fun b o _ hb _ e n => u.keep b o e n hb (by simp)) (fun b o _ hb _ e n => u.slot b o e n hb (by simp)) (fun b o _ e n => u.free b o e n (by simp)) (fun b o _ e => u.there b o e (by simp)) u.tups u.frzs u.tbls (fun m' hm => by
    obtain ⟨o', es', ep', ho', r'⟩ := hm
    rw [ho] at ho'; cases ho'
    exact ⟨_, es', ep', hL, r'⟩) hok I.bare
/-- behind a call (or a comprehension's block): the slots of this frame may have changed too, the records at ch may have turned -/
theorem Inv.call {g' : Array GenState} {t' : Nat} {d' : Drawn} {ch : List Addr} (I : Inv X pins σ H s) (u : Un (frs X.stack) ch H H' s.heap h') (hok : HOk X.prog X.w H' h') (hg : AllBare g')
    (hch : ∀ b ∈ ch, (b ∈ X.ex ∨ X.s₀.heap.objs.size ≤ b) ∧ b ≠ X.env.locals ∧ (∀ x c, X.env.cells.lookup x = some c → c ≠ b) ∧ ∀ p ∈ X.pn ++ pins, p.1 ≠ b) :
    Inv X pins σ H' { s with heap := h', gens := g', drawn := d', toks := t' } := by
  obtain ⟨m, ⟨o, es, ep, ho, r⟩, _⟩ := id I.loc
  obtain ⟨sl, hL⟩ := u.any ho I.free fun z => (hch _ z).2.1 rfl
  exact I.step (ch := ch) hch (fun b o hL hb hc e n => u.keep b o e n (fun z => (List.mem_cons.mp (I.stkSub b z)).elim hL hb) hc) (fun b o _ _ hc e n => u.any e n hc) (fun b o hc e n => u.free b o e n hc) (fun b o hc e => u.there b o e hc) u.tups u.frzs u.tbls (fun m' hm => by
    obtain ⟨o', es', ep', ho', r'⟩ := hm
    rw [ho] at ho'; cases ho'
    exact ⟨_, es', ep', hL, r'⟩) hok hg
/-- an untracked record of ours (an iterator) has turned -/
theorem Inv.turned {t' : Nat} {it : Addr} (I : Inv X pins σ H s) (k : ∀ b o, b ≠ it → s.heap.get? b = some o → h'.get? b = some o) (hn : H it = none) (hL : it ≠ X.env.locals)
    (h1 : it ∈ X.ex ∨ X.s₀.heap.objs.size ≤ it) (h2 : ∀ x c, X.env.cells.lookup x = some c → c ≠ it) (h3 : ∀ p ∈ X.pn ++ pins, p.1 ≠ it) : Inv X pins σ H { s with heap := h', toks := t' } := by
  have nit : ∀ b u, H b = some u → b ≠ it := fun b u e z => by rw [z, hn] at e; cases e
  refine I.step (g' := s.gens) (d' := s.drawn) (ch := [it]) (fun b hb => ?_) (fun b o _ _ hc e _ => k b o (fun z => hc (by simp [z])) e) (fun b o _ _ hc e _ => ⟨o.slots, k b o (fun z => hc (by simp [z])) e⟩) (fun _ _ _ _ n => n)
    (fun b o hc e => ⟨o, k b o (fun z => hc (by simp [z])) e⟩) (fun _ _ e => e) (fun _ _ _ e => e) (fun b ps e => ⟨#[], by rw [e]; simp⟩) (fun m hm => ?_) (fun b u e => ?_) I.bare
  · have e : b = it := by simpa using hb
    subst e
    exact ⟨h1, hL, h2, h3⟩
  · obtain ⟨o, es, ep, ho, r⟩ := hm
    exact ⟨o, es, ep, k _ o (Ne.symm hL) ho, r⟩
  · refine (I.hok b u e).stay (fun c v hc q => k c v ?_ q) (fun _ q => q) fun _ _ q => q
    rcases hc with z | z
    · rw [z]; exact nit b u e
    · exact nit c _ z
theorem Inv.tok (I : Inv X pins σ H s) (t : Nat) : Inv X pins σ H { s with toks := t } := I.un (h' := s.heap) (t' := t) Un.refl I.hok
/-- all objects kept -/
theorem Inv.kept {t' : Nat} (I : Inv X pins σ H s) (k : ∀ b u, s.heap.get? b = some u → h'.get? b = some u) : Inv X pins σ H { s with heap := h', toks := t' } := I.un (Un.kept k) (I.hok.kept k)
/-- a new object laid and tracked -/
theorem Inv.laid {a : Addr} {o : HO} {t' : Nat} (I : Inv X pins σ H s) (k : ∀ b u, s.heap.get? b = some u → h'.get? b = some u) (hp : s.heap.objs.size ≤ a) (new : ObjOk X.prog X.w (upd H a o) h' a o) :
    Inv X pins σ (upd H a o) { s with heap := h', toks := t' } := I.un (Un.laid k hp (I.hok.fresh hp)) (I.hok.laid k hp new)
/-- an object written -/
theorem Inv.write {x e : Addr} {o : HO} {t' : Nat} (I : Inv X pins σ H s) (mu : Mut (H x)) (he : e = x ∨ H e = some (.own x)) (k : ∀ b u, b ≠ e → s.heap.get? b = some u → h'.get? b = some u) (heo : ∃ u, h'.get? e = some u)
    (new : ObjOk X.prog X.w (upd H x o) h' x o) : Inv X pins σ (upd H x o) { s with heap := h', toks := t' } := I.un (Un.write mu he k heo) (I.hok.write mu he k heo new)
theorem Inv.pins_of {pins' : List (Addr × Obj)} (I : Inv X pins σ H s) (h : ∀ p ∈ pins', s.heap.get? p.1 = some p.2 ∧ H p.1 = none ∧ p.1 ≠ X.env.locals ∧ p.1 ∉ X.fs ∧ ∀ v, p.2.data ≠ .cell v) : Inv X pins' σ H s :=
  ⟨I.ok, I.os, I.bare, I.base, I.loc, I.cell, I.free, I.freeC, fun p hp => (List.mem_append.mp hp).elim (fun z => I.pin p (List.mem_append_left _ z)) (h p), I.hok, I.len⟩

theorem nodup_ix {N : List Str} (hN : N.Nodup) {i j : Nat} {x : Str} (a : N[i]? = some x) (b : N[j]? = some x) : i = j := by
  obtain ⟨h1, e1⟩ := List.getElem?_eq_some_iff.mp a
  obtain ⟨h2, e2⟩ := List.getElem?_eq_some_iff.mp b
  exact (List.getElem_inj hN).mp (e1.trans e2.symm)

/-- a name is stored; what changed -/
theorem store_ok2 {M : Model} {A : Around} {E : Value → Shared → Prop} {i : Nat} {x : Str} {v : V} {u : Value} {Q : Unit → Shared → Prop} (I : Inv X pins σ H s) (hN : X.N.Nodup) (hi : X.N[i]? = some x) (hx : Loc X.env.scope x) (r : RelV v u)
    (h : ∀ s', Inv X pins (σ.set i (some v)) H s' → (∃ a, Heap.SameBut a s.heap s'.heap ∧ (a = X.env.locals ∨ X.env.cells.lookup x = some a)) → Q () s') (hf : X.fn x = true ∨ X.env.scope.names.lookup x = some .local := by first | exact .inl rfl | exact .inr rfl | assumption) : wpAny M A (storeName X.env x u) Q E s := by
  obtain ⟨m, hn, hl⟩ := id I.loc
  have hcls : (X.env.scope.kind == .class || (X.env.scope.kind == .module && X.env.locals != X.env.globals)) = false := by rw [I.ok.kind]; rfl
  have hiσ : i < σ.length := by rw [I.len]; exact (List.getElem?_eq_some_iff.mp hi).1
  have cne := I.cne
  have tracked : ∀ {a : Addr} {h' : Heap}, (∃ o, s.heap.get? a = some o ∧ H a = none) → Heap.SameBut a s.heap h' → HOk X.prog X.w H h' := fun {a h'} ha hs b ob e => by
    obtain ⟨_, _, hfree⟩ := ha
    refine (I.hok b ob e).stay (fun c w' hc q => (hs.2 c ?_).trans q) (fun _ q => q) fun _ _ q => q
    rintro rfl
    rcases hc with rfl | hc
    · rw [hfree] at e; cases e
    · rw [hfree] at hc; cases hc
  rcases hx with hk | hk
  · refine wpAny_storeName_local hk hn (fun h' hn' hs => ?_) hcls
    obtain ⟨oL, _, _, hoL, _⟩ := id hn
    refine h _ ⟨I.ok, I.os, I.bare, ⟨fun b o e n hb hx => ?_, fun b o e n hb hx => ?_, I.base.free, fun b o e hx => ?_, I.base.tups, I.base.frzs, I.base.tbls⟩, ⟨_, hn', fun j y v' e1 e2 e3 => ?_⟩, fun y c e => ?_, I.free, I.freeC, fun p hp => ?_, tracked ⟨oL, hoL, I.free⟩ hs, by simpa using I.len⟩ ⟨_, hs, .inl rfl⟩
    · exact (hs.2 b (Nat.ne_of_lt (Nat.lt_of_lt_of_le (Heap.lt_size e) I.ok.above))).trans (I.base.keep b o e n hb hx)
    · obtain ⟨sl, e1⟩ := I.base.slot b o e n hb hx
      exact ⟨sl, (hs.2 b (Nat.ne_of_lt (Nat.lt_of_lt_of_le (Heap.lt_size e) I.ok.above))).trans e1⟩
    · obtain ⟨o', e1⟩ := I.base.there b o e hx
      exact ⟨o', (hs.2 b (Nat.ne_of_lt (Nat.lt_of_lt_of_le (Heap.lt_size e) I.ok.above))).trans e1⟩
    · by_cases hj : j = i
      · subst hj
        rw [hi] at e1; cases e1
        rw [List.getElem?_set_self hiσ] at e2
        cases e2
        exact ⟨u, r, .inl ⟨hk, by simp⟩⟩
      · rw [List.getElem?_set_ne (Ne.symm hj)] at e2
        obtain ⟨u', r', q⟩ := hl j y v' e1 e2 e3
        refine ⟨u', r', ?_⟩
        rcases q with ⟨k, e⟩ | ⟨k, c, e, z⟩
        · refine .inl ⟨k, ?_⟩
          have : y ≠ x := fun e => hj (nodup_ix hN e1 (e ▸ hi))
          simp [this, e]
        · exact .inr ⟨k, c, e, z.sameBut hs (cne y c e)⟩
    · obtain ⟨w', z⟩ := I.cell y c e
      exact ⟨w', z.sameBut hs (cne y c e)⟩
    · obtain ⟨e, n, ne, nf, d⟩ := I.pin p hp
      exact ⟨(hs.2 p.1 ne).trans e, n, ne, nf, d⟩
  · have hfn : X.fn x = true := by
      rcases hf with z | z
      · exact z
      · rw [z] at hk; cases hk
    obtain ⟨c, hc⟩ := I.ok.has x (.inl hk)
    obtain ⟨w', z⟩ := I.cell x c hc
    refine wpAny_storeName_cell I.ok.kind hk hc z (fun h' hc' hs => ?_)
    obtain ⟨oc, hoc, hocd⟩ := id z
    refine h { s with heap := h' } ⟨I.ok, I.os, I.bare, ⟨fun b o e n hb hx => ?_, fun b o e n hb hx => ?_, I.base.free, fun b o e hx => ?_, I.base.tups, I.base.frzs, I.base.tbls⟩, ⟨m, hn.sameBut hs (Ne.symm (cne x c hc)), fun j y v' e1 e2 e3 => ?_⟩, fun y c' e => ?_, I.free, I.freeC, fun p hp => ?_, tracked ⟨oc, hoc, I.freeC x c hc⟩ hs, by simpa using I.len⟩ ⟨c, hs, .inr hc⟩
    · exact (hs.2 b (Nat.ne_of_lt (Nat.lt_of_lt_of_le (Heap.lt_size e) (I.ok.cab x c hfn hc)))).trans (I.base.keep b o e n hb hx)
    · obtain ⟨sl, e1⟩ := I.base.slot b o e n hb hx
      exact ⟨sl, (hs.2 b (Nat.ne_of_lt (Nat.lt_of_lt_of_le (Heap.lt_size e) (I.ok.cab x c hfn hc)))).trans e1⟩
    · obtain ⟨o', e1⟩ := I.base.there b o e hx
      exact ⟨o', (hs.2 b (Nat.ne_of_lt (Nat.lt_of_lt_of_le (Heap.lt_size e) (I.ok.cab x c hfn hc)))).trans e1⟩
    · by_cases hj : j = i
      · subst hj
        rw [hi] at e1; cases e1
        rw [List.getElem?_set_self hiσ] at e2
        cases e2
        exact ⟨u, r, .inr ⟨.inl hk, c, hc, hc'⟩⟩
      · rw [List.getElem?_set_ne (Ne.symm hj)] at e2
        obtain ⟨u', r', q⟩ := hl j y v' e1 e2 e3
        refine ⟨u', r', ?_⟩
        rcases q with q | ⟨k, c', e, z'⟩
        · exact .inl q
        · refine .inr ⟨k, c', e, z'.sameBut hs ?_⟩
          rintro rfl
          exact hj (nodup_ix hN e1 (I.ok.inj _ _ _ e hc ▸ hi))
    · by_cases hcc : c' = c
      · subst hcc; exact ⟨_, hc'⟩
      · obtain ⟨w2, z2⟩ := I.cell y c' e
        exact ⟨w2, z2.sameBut hs hcc⟩
    · obtain ⟨e, n, ne, nf, d⟩ := I.pin p hp
      refine ⟨(hs.2 p.1 ?_).trans e, n, ne, nf, d⟩
      intro q
      rw [q, hoc] at e
      have q' : oc = p.2 := Option.some.inj e
      exact d w' (by rw [← q']; exact hocd)
theorem store_ok {M : Model} {A : Around} {E : Value → Shared → Prop} {i : Nat} {x : Str} {v : V} {u : Value} {Q : Unit → Shared → Prop} (I : Inv X pins σ H s) (hN : X.N.Nodup) (hi : X.N[i]? = some x) (hx : Loc X.env.scope x) (r : RelV v u)
    (h : ∀ s', Inv X pins (σ.set i (some v)) H s' → Q () s') (hf : X.fn x = true ∨ X.env.scope.names.lookup x = some .local := by first | exact .inl rfl | exact .inr rfl | assumption) : wpAny M A (storeName X.env x u) Q E s :=
  store_ok2 I hN hi hx r (fun s' I' _ => h s' I') hf
/-- behind a call or a block, the state as it is -/
theorem Inv.call' {s' : Shared} {ch : List Addr} (I : Inv X pins σ H s) (ho : s'.os = s.os) (u : Un (frs X.stack) ch H H' s.heap s'.heap) (hok : HOk X.prog X.w H' s'.heap) (hg : AllBare s'.gens)
    (hch : ∀ b ∈ ch, (b ∈ X.ex ∨ X.s₀.heap.objs.size ≤ b) ∧ b ≠ X.env.locals ∧ (∀ x c, X.env.cells.lookup x = some c → c ≠ b) ∧ ∀ p ∈ X.pn ++ pins, p.1 ≠ b) : Inv X pins σ H' s' := by
  obtain ⟨h', g', d', t', o'⟩ := s'
  have e : o' = s.os := ho
  subst e
  exact I.call (g' := g') (t' := t') (d' := d') u hok hg hch
end

/-! ### the judgements -/
/-- an exception: its class, its own dict's address (where it has one), the abstract heap behind it -/
abbrev XK := Value → Option Addr → Hp → Prop
abbrev St := List (Option V)
abbrev VK := V → Hp → Prop
/-- an expression's reading; a test's; an argument list's -/
abbrev TE := St → Hp → VK → Prop
abbrev TT := St → Hp → (Bool → Hp → Prop) → Prop
abbrev TA := St → Hp → (List V → Hp → Prop) → Prop
/-- what is wanted behind a statement -/
structure Ends where
  nx : St → Hp → Prop
  rt : VK
  bk : St → Hp → Prop := fun _ _ => False
  ct : St → Hp → Prop := fun _ _ => False
abbrev TS := Ends → St → Hp → Prop

def EP (X : Cx) (pins : List (Addr × Obj)) (σ : St) (Q : VK) (u : Value) (s' : Shared) : Prop := ∃ v H', Inv X pins σ H' s' ∧ RelV v u ∧ Q v H'
def TP (X : Cx) (pins : List (Addr × Obj)) (σ : St) (Q : Bool → Hp → Prop) (b : Bool) (s' : Shared) : Prop := ∃ H', Inv X pins σ H' s' ∧ Q b H'
def AP (X : Cx) (pins : List (Addr × Obj)) (σ : St) (Q : List V → Hp → Prop) (us : List Value) (s' : Shared) : Prop := ∃ vs H', Inv X pins σ H' s' ∧ Vals vs us ∧ Q vs H'
def SP (X : Cx) (pins : List (Addr × Obj)) (D : Ends) (f : Flow) (s' : Shared) : Prop :=
  match f with
  | .next => ∃ σ' H', Inv X pins σ' H' s' ∧ D.nx σ' H'
  | .brk => ∃ σ' H', Inv X pins σ' H' s' ∧ D.bk σ' H'
  | .cont => ∃ σ' H', Inv X pins σ' H' s' ∧ D.ct σ' H'
  | .ret u => ∃ v σ' H', Inv X pins σ' H' s' ∧ RelV v u ∧ D.rt v H'

def PE (X : Cx) (e : Expr) (t : TE) : Prop :=
  ∀ (pins : List (Addr × Obj)) (s : Shared) (σ : St) (H : Hp) (Q : VK), Inv X pins σ H s → t σ H Q → wpAny (model X.prog X.w) X.A (eval e X.env) (EP X pins σ Q) X.xe s
def PT (X : Cx) (e : Expr) (t : TT) : Prop :=
  ∀ (pins : List (Addr × Obj)) (s : Shared) (σ : St) (H : Hp) (Q : Bool → Hp → Prop), Inv X pins σ H s → t σ H Q → wpAny (model X.prog X.w) X.A (isTrue e X.env (eval e X.env)) (TP X pins σ Q) X.xe s
/-- a test whatever its 'whole' is (and, or) -/
def PW (X : Cx) (e : Expr) (t : TT) : Prop :=
  ∀ (whole : Sem Value) (pins : List (Addr × Obj)) (s : Shared) (σ : St) (H : Hp) (Q : Bool → Hp → Prop), Inv X pins σ H s → t σ H Q → wpAny (model X.prog X.w) X.A (isTrue e X.env whole) (TP X pins σ Q) X.xe s
theorem PW.pt {X : Cx} {e : Expr} {t : TT} (h : PW X e t) : PT X e t := h _
/-- an argument list (no star), from the left -/
def PA (X : Cx) (es : List Expr) (t : TA) : Prop :=
  ∀ (pos : Pos) (pins : List (Addr × Obj)) (s : Shared) (σ : St) (H : Hp) (Q : List V → Hp → Prop), Inv X pins σ H s → t σ H Q → wpAny (model X.prog X.w) X.A (spliced (backTo pos (starEach es X.env))) (AP X pins σ Q) X.xe s
def PS (X : Cx) (st : Stmt) (t : TS) : Prop :=
  ∀ (pins : List (Addr × Obj)) (s : Shared) (σ : St) (H : Hp) (D : Ends), Inv X pins σ H s → t D σ H → wpAny (model X.prog X.w) X.A (exec st X.env) (SP X pins D) X.xe s
def PSs (X : Cx) (st : List Stmt) (t : TS) : Prop :=
  ∀ (pins : List (Addr × Obj)) (s : Shared) (σ : St) (H : Hp) (D : Ends), Inv X pins σ H s → t D σ H → wpAny (model X.prog X.w) X.A (execs st X.env) (SP X pins D) X.xe s
/-- weaken the end -/
theorem thn {α : Type} {t : Sem α} {Q Q' : α → Shared → Prop} {M : Model} {A : Around} {E : Value → Shared → Prop} {s : Shared} (h : wpAny M A t Q E s) (hQ : ∀ a s, Q a s → Q' a s) : wpAny M A t Q' E s := wpAny_mono h hQ fun _ _ x => x
end L2

namespace L2
open PySem PySem.Spec PyProof.Rows
section
variable {X : Cx}

/-! ### names and constants -/
def tVar (i : Nat) : TE := fun σ H Q => ∃ v, σ[i]? = some (some v) ∧ Q v H
def tC (v : V) : TE := fun _ H Q => Q v H
theorem pe_var {i : Nat} {x : Str} {pos : Pos} (hN : X.N[i]? = some x) (hv : Vis X.env.scope x) (hd : (x == ("__debug__" : Str)) = false := by decide) (hcd : (x == ("__classdict__" : Str)) = false := by decide) : PE X (.Name x pos) (tVar i) := by
  intro pins s σ H Q I h
  obtain ⟨v, e, h⟩ := h
  obtain ⟨m, hn, hl⟩ := I.loc
  obtain ⟨u, r, l⟩ := hl i x v hN e hv
  have fin : EP X pins σ Q u s := ⟨v, H, I, r, h⟩
  rcases l with ⟨hk, hm⟩ | ⟨hk, c, hc, hcell⟩
  · exact wpAny_Name (wpAny_loadName_local I.ok.kind hk hn hm fin) hd
  · rcases hk with hk | hk
    · exact wpAny_Name (wpAny_loadName_cell I.ok.kind hk hc hcell fin) hd
    · exact wpAny_Name (wpAny_loadName_free I.ok.kind hk hc hcell fin hcd) hd
theorem pe_int {i j pos} : PE X (.Constant (.int i) j pos) (tC (.int i)) := fun _ _ _ H _ I h => wpAny_Constant_int ⟨.int i, H, I.tok _, ⟨_, rfl⟩, h⟩
theorem pe_bl {b j pos} : PE X (.Constant (.bool b) j pos) (tC (.bl b)) := fun _ _ _ H _ I h => Constant_bool ⟨.bl b, H, I, rfl, h⟩
theorem pe_non {j pos} : PE X (.Constant .none j pos) (tC .non) := fun _ _ _ H _ I h => Constant_none ⟨.non, H, I, rfl, h⟩
theorem pe_str {x j pos} : PE X (.Constant (.str x) j pos) (tC (.str x)) := fun _ _ _ H _ I h => Calls.Constant_str ⟨.str x, H, I.tok _, ⟨_, rfl⟩, h⟩

/-- a global name of the def -/
def Gl (X : Cx) (x : Str) : Prop := X.env.kindOf x = some .globalImplicit
theorem ld_glob {E : Value → Shared → Prop} {pins : List (Addr × Obj)} {s : Shared} {σ : St} {H : Hp} {x : Str} {u : Value} {pos : Pos} {Q : Value → Shared → Prop} (I : Inv X pins σ H s) (hg : Gl X x) (hm : X.mg x = some u) (h : Q u s)
    (hd : (x == ("__debug__" : Str)) = false := by decide) : wpAny (model X.prog X.w) X.A (eval (.Name x pos) X.env) Q E s :=
  Calls.Name_function_global I.ok.kind hg (Calls.loadGlobal_global (by rw [I.ok.glob]; exact I.mod.glob.keeps I.bk) hm h) hd
theorem ld_blt {E : Value → Shared → Prop} {pins : List (Addr × Obj)} {s : Shared} {σ : St} {H : Hp} {x : Str} {u : Value} {pos : Pos} {Q : Value → Shared → Prop} (I : Inv X pins σ H s) (hg : Gl X x) (hm : X.mg x = none) (hv : bootBuiltins x = some u) (h : Q u s)
    (hn : x ≠ "__name__" := by decide) (hd : (x == ("__debug__" : Str)) = false := by decide) : wpAny (model X.prog X.w) X.A (eval (.Name x pos) X.env) Q E s := by
  obtain ⟨mb, h1, h2⟩ := I.mod.blt
  exact Calls.Name_function_global I.ok.kind hg (Calls.loadGlobal_builtin (by rw [I.ok.glob]; exact I.mod.glob.keeps I.bk) hm (by rw [I.ok.blt]; exact h1.keeps I.bk) ((h2 x hn).trans hv) h) hd
theorem pe_bltn {x : Str} {v : V} {u : Value} {pos : Pos} (hg : Gl X x) (hm : X.mg x = none) (hv : bootBuiltins x = some u) (r : RelV v u) (hn : x ≠ "__name__" := by decide) (hd : (x == ("__debug__" : Str)) = false := by decide) : PE X (.Name x pos) (tC v) :=
  fun _ _ _ H _ I h => ld_blt I hg hm hv ⟨v, H, I, r, h⟩ hn hd

/-! ### arithmetic -/
variable {a b : Expr} {ta tb : TE} {pos : Pos}
/-! ### comparisons -/
def PC (X : Cx) (op : CmpOp) (a b : Expr) (t : TE) : Prop :=
  ∀ (pins : List (Addr × Obj)) (s : Shared) (σ : St) (H : Hp) (Q : VK), Inv X pins σ H s → t σ H Q →
    wpAny (model X.prog X.w) X.A (eval a X.env) (fun v s₁ => wpAny (model X.prog X.w) X.A (eval b X.env) (fun u s₂ => wpAny (model X.prog X.w) X.A (compareOp op v u) (EP X pins σ Q) X.xe s₂) X.xe s₁) X.xe s
theorem nobehind (b : Expr) {op : CmpOp} (h : op ≠ .In) (h2 : op ≠ .NotIn) : behindInMarks op b = false := by
  have e1 : (op == CmpOp.In) = false := by cases op <;> first | rfl | exact absurd rfl h
  have e2 : (op == CmpOp.NotIn) = false := by cases op <;> first | rfl | exact absurd rfl h2
  cases b <;> simp [behindInMarks, e1, e2]
/-- a comparison as a value, as a test -/
def tB (t : TE) : TT := fun σ H Q => t σ H fun x H1 => ∃ c, x = .bl c ∧ Q c H1
theorem pt_cmp {op : CmpOp} {t : TE} (h : PC X op a b t) (h1 : behindInMarks op b = false := by first | exact nobehind _ (by decide) (by decide) | rfl) : PT X (.Compare a [op] [b] pos) (tB t) := by
  intro pins s σ H Q I hw
  refine wpAny_isTrue_Compare1 (thn (h pins s σ H _ I hw) fun v s1 h1 => thn h1 fun u s2 h2 => thn h2 fun c s3 ⟨x, H1, I1, r1, q1⟩ => ?_) h1
  obtain ⟨d, rfl, q⟩ := q1
  cases r1
  exact wpAny_truthy_bool ⟨H1, I1, q⟩
/-- an expression whose value is a bool, as a test -/
theorem pt_val {e : Expr} {t : TE} (h : PE X e t) (he : ∀ whole, isTrue e X.env whole = (do let v ← whole; standAt e.pos; holding [v] (truthy v)) := by intro _; rfl) : PT X e (tB t) := by
  intro pins s σ H Q I hw
  refine isTrue_plain (thn (h pins s σ H _ I hw) fun v s1 ⟨x, H1, I1, r1, q1⟩ => ?_) (he _)
  obtain ⟨d, rfl, q⟩ := q1
  cases r1
  exact wpAny_truthy_bool ⟨H1, I1, q⟩

/-! ### and, or, not -/
variable {tA tB' : TT} {rest : List Expr}
def tAnd (t u : TT) : TT := fun σ H Q => t σ H fun c H1 => if c = true then u σ H1 Q else Q false H1
def tOr (t u : TT) : TT := fun σ H Q => t σ H fun c H1 => if c = true then Q true H1 else u σ H1 Q
def tNot (t : TT) : TT := fun σ H Q => t σ H fun c H1 => Q (!c) H1
theorem pw_and1 (ha : PT X a tA) : PW X (.BoolOp .And [a] pos) tA := by
  intro wh pins s σ H Q I h
  refine isTrue_and (thn (ha pins s σ H Q I h) fun c s1 e => ?_)
  cases c with
  | true => exact isTrue_and_nil e
  | false => exact e
theorem pw_or1 (ha : PT X a tA) : PW X (.BoolOp .Or [a] pos) tA := by
  intro wh pins s σ H Q I h
  refine isTrue_or (thn (ha pins s σ H Q I h) fun c s1 e => ?_)
  cases c with
  | false => exact isTrue_or_nil e
  | true => exact e
theorem pw_and (ha : PT X a tA) (hb : PW X (.BoolOp .And (b :: rest) pos) tB') : PW X (.BoolOp .And (a :: b :: rest) pos) (tAnd tA tB') := by
  intro wh pins s σ H Q I h
  refine isTrue_and (thn (ha pins s σ H _ I h) fun c s1 ⟨H1, I1, q1⟩ => ?_)
  cases c with
  | true => exact hb wh pins s1 σ H1 Q I1 q1
  | false => exact ⟨H1, I1, q1⟩
theorem pw_or (ha : PT X a tA) (hb : PW X (.BoolOp .Or (b :: rest) pos) tB') : PW X (.BoolOp .Or (a :: b :: rest) pos) (tOr tA tB') := by
  intro wh pins s σ H Q I h
  refine isTrue_or (thn (ha pins s σ H _ I h) fun c s1 ⟨H1, I1, q1⟩ => ?_)
  cases c with
  | true => exact ⟨H1, I1, q1⟩
  | false => exact hb wh pins s1 σ H1 Q I1 q1
theorem pt_not (ha : PT X a tA) : PT X (.UnaryOp .Not a pos) (tNot tA) := by
  intro pins s σ H Q I h
  exact isTrue_not (ha pins s σ H (fun c H1 => Q (!c) H1) I h)
/-- .. as values (bools) -/
def tAndV (ta tb : TE) : TE := fun σ H Q => ta σ H fun x H1 => ∃ c, x = .bl c ∧ if c = true then tb σ H1 Q else Q (.bl false) H1
def tOrV (ta tb : TE) : TE := fun σ H Q => ta σ H fun x H1 => ∃ c, x = .bl c ∧ if c = true then Q (.bl true) H1 else tb σ H1 Q
def tNotV (ta : TE) : TE := fun σ H Q => ta σ H fun x H1 => ∃ c, x = .bl c ∧ Q (.bl (!c)) H1
theorem pe_one {op} {t : TE} (h : PE X a t) : PE X (.BoolOp op [a] pos) t := fun pins s σ H Q I hw => BoolOp_one (h pins s σ H Q I hw)
theorem pe_and (ha : PE X a ta) (hb : PE X (.BoolOp .And (b :: rest) pos) tb) : PE X (.BoolOp .And (a :: b :: rest) pos) (tAndV ta tb) := by
  intro pins s σ H Q I h
  refine BoolOp_and (thn (ha pins s σ H _ I h) fun v s1 ⟨x, H1, I1, r1, q1⟩ => ?_)
  obtain ⟨c, rfl, q1⟩ := q1
  cases r1
  refine wpAny_truthy_bool ?_
  cases c with
  | true => exact hb pins s1 σ H1 Q I1 q1
  | false => exact ⟨.bl false, H1, I1, rfl, q1⟩
theorem pe_or (ha : PE X a ta) (hb : PE X (.BoolOp .Or (b :: rest) pos) tb) : PE X (.BoolOp .Or (a :: b :: rest) pos) (tOrV ta tb) := by
  intro pins s σ H Q I h
  refine BoolOp_or (thn (ha pins s σ H _ I h) fun v s1 ⟨x, H1, I1, r1, q1⟩ => ?_)
  obtain ⟨c, rfl, q1⟩ := q1
  cases r1
  refine wpAny_truthy_bool ?_
  cases c with
  | false => exact hb pins s1 σ H1 Q I1 q1
  | true => exact ⟨.bl true, H1, I1, rfl, q1⟩
theorem pe_not (ha : PE X a ta) : PE X (.UnaryOp .Not a pos) (tNotV ta) := by
  intro pins s σ H Q I h
  refine UnaryOp_ (thn (ha pins s σ H _ I h) fun v s1 ⟨x, H1, I1, r1, q1⟩ => ?_)
  obtain ⟨c, rfl, q1⟩ := q1
  cases r1
  exact not_of (wpAny_truthy_bool ⟨.bl (!c), H1, I1, rfl, q1⟩)
/-- a if t else b -/
def tIf (t : TT) (ta tb : TE) : TE := fun σ H Q => t σ H fun c H1 => if c = true then ta σ H1 Q else tb σ H1 Q
theorem pe_ifExp {c : Expr} (hc : PT X c tA) (ha : PE X a ta) (hb : PE X b tb) : PE X (.IfExp c a b pos) (tIf tA ta tb) := by
  intro pins s σ H Q I h
  refine wpAny_IfExp (thn (hc pins s σ H _ I h) fun d s1 ⟨H1, I1, q1⟩ => ?_)
  cases d with
  | true => exact ha pins s1 σ H1 Q I1 q1
  | false => exact hb pins s1 σ H1 Q I1 q1
end
end L2

namespace L2
open PySem PySem.Spec PyProof.Rows

/-! ### a list, a tuple that is read: tracked, frozen, or an object of the module -/
def SqL (K : PySem.W.Frag) (H : Hp) (a : Addr) (xs : List V) : Prop :=
  Rd H a (.lst xs) ∨
    ∃ (o : Obj) (its : Array Value) (n : Nat), K.lookup a = some o ∧ o.cls = .type "list" ∧ o.dict = none ∧ o.data = .seq its n ∧ its.size ≤ sizeLine ∧ Vals xs its.toList
def SqT (K : PySem.W.Frag) (H : Hp) (a : Addr) (xs : List V) : Prop :=
  Rd H a (.tup xs) ∨
    ∃ (o : Obj) (its : Array Value) (n : Nat), K.lookup a = some o ∧ o.cls = .type "tuple" ∧ o.data = .seq its n ∧ its.size ≤ sizeLine ∧ Vals xs its.toList
def absV : Value → Option V
  | .none => some .non
  | .bool b => some (.bl b)
  | .int i _ => some (.int i)
  | .str x _ => some (.str x)
  | .bytes b _ => some (.byt b)
  | .float b _ => some (.flt b)
  | .ref a => some (.ref a)
  | .type n => some (.ty n)
  | _ => none
theorem RelV.abs {x : V} {u : Value} (r : RelV x u) : absV u = some x := by
  cases x with
  | non => cases r; rfl
  | bl _ => cases r; rfl
  | int _ => obtain ⟨t, rfl⟩ := r; rfl
  | str _ => obtain ⟨t, rfl⟩ := r; rfl
  | byt _ => obtain ⟨t, rfl⟩ := r; rfl
  | flt _ => obtain ⟨t, rfl⟩ := r; rfl
  | ref _ => cases r; rfl
  | ty _ => cases r; rfl
theorem RelV.inj {x y : V} {u : Value} (r : RelV x u) (q : RelV y u) : x = y := Option.some.inj (r.abs.symm.trans q.abs)
theorem Vals.inj {xs ys : List V} {us : List Value} (h : Vals xs us) (h' : Vals ys us) : xs = ys := by
  induction h generalizing ys with
  | nil => cases h'; rfl
  | cons r t ih => cases h' with
    | cons r' t' => rw [r.inj r', ih t']
section
variable {X : Cx} {pins : List (Addr × Obj)} {σ : St} {H : Hp} {s : Shared} {a : Addr} {xs ys : List V}
theorem SqL.of {K : PySem.W.Frag} (h : H a = some (.lst xs)) : SqL K H a xs := .inl (.inl h)
theorem SqT.of {K : PySem.W.Frag} (h : H a = some (.tup xs)) : SqT K H a xs := .inl (.inl h)
theorem Inv.list (I : Inv X pins σ H s) (h : SqL X.K H a xs) : ∃ its : List Value, Vals xs its ∧ PlainL s.heap a its.toArray ∧ xs.length ≤ sizeLine := by
  rcases h with h | ⟨o, its, n, hk, hc, hd, hs, hz, r⟩
  · obtain ⟨z, its, n, r, e⟩ := h.ok I.hok
    exact ⟨its, r, ⟨_, n, e, rfl, rfl, rfl⟩, z⟩
  · refine ⟨its.toList, r, ⟨o, n, I.kIn a o hk, hc, hd, by simpa using hs⟩, ?_⟩
    have e := r.length
    simp only [Array.length_toList] at e
    omega
theorem Inv.tuple (I : Inv X pins σ H s) (h : SqT X.K H a xs) : ∃ its : List Value, Vals xs its ∧ IsTup s.heap a its.toArray ∧ xs.length ≤ sizeLine := by
  rcases h with h | ⟨o, its, n, hk, hc, hs, hz, r⟩
  · obtain ⟨z, its, r, p⟩ := h.ok I.hok
    exact ⟨its, r, p, z⟩
  · refine ⟨its.toList, r, ⟨o, I.kIn a o hk, hc, n, by simpa using hs⟩, ?_⟩
    have e := r.length
    simp only [Array.length_toList] at e
    omega
theorem Inv.list_inj (I : Inv X pins σ H s) (h : SqL X.K H a xs) (h' : SqL X.K H a ys) : xs = ys := by
  obtain ⟨its, r, ⟨o, n, e, _, _, d⟩, _⟩ := I.list h
  obtain ⟨its', r', ⟨o', n', e', _, _, d'⟩, _⟩ := I.list h'
  rw [e] at e'; cases e'
  rw [d] at d'
  injection d' with d1 _
  have : its = its' := by simpa using congrArg Array.toList d1
  subst this
  exact r.inj r'
theorem Inv.tuple_inj (I : Inv X pins σ H s) (h : SqT X.K H a xs) (h' : SqT X.K H a ys) : xs = ys := by
  obtain ⟨its, r, ⟨o, e, _, n, d⟩, _⟩ := I.tuple h
  obtain ⟨its', r', ⟨o', e', _, n', d'⟩, _⟩ := I.tuple h'
  rw [e] at e'; cases e'
  rw [d] at d'
  injection d' with d1 _
  have : its = its' := by simpa using congrArg Array.toList d1
  subst this
  exact r.inj r'
end

/-! ### another wish about exceptions -/
abbrev Cx.wish (X : Cx) (E : Value → Shared → Prop) : Cx := { X with xe := E }
/-- no exception leaves -/
abbrev Cx.nox (X : Cx) : Cx := X.wish fun _ _ => False
theorem Cx.Ok.wish {X : Cx} (ok : X.Ok) (E : Value → Shared → Prop) : (X.wish E).Ok :=
  ⟨ok.mod, ok.kind, ok.glob, ok.blt, ok.above, ok.inj, ok.has, ok.cab, ok.hd, ok.frames, ok.stk, ok.exf, ok.bs, ok.bsz, ok.noex, ok.exfs, ok.funs, ok.frf⟩
theorem Cx.Ok.unwish {X : Cx} {E : Value → Shared → Prop} (ok : (X.wish E).Ok) : X.Ok :=
  ⟨ok.mod, ok.kind, ok.glob, ok.blt, ok.above, ok.inj, ok.has, ok.cab, ok.hd, ok.frames, ok.stk, ok.exf, ok.bs, ok.bsz, ok.noex, ok.exfs, ok.funs, ok.frf⟩
section
variable {X : Cx} {pins : List (Addr × Obj)} {σ : St} {H : Hp} {s : Shared} {E : Value → Shared → Prop}
theorem Inv.wish (I : Inv X pins σ H s) (E : Value → Shared → Prop) : Inv (X.wish E) pins σ H s := ⟨I.ok.wish E, I.os, I.bare, I.base, I.loc, I.cell, I.free, I.freeC, I.pin, I.hok, I.len⟩
theorem Inv.unwish (I : Inv (X.wish E) pins σ H s) : Inv X pins σ H s := ⟨I.ok.unwish, I.os, I.bare, I.base, I.loc, I.cell, I.free, I.freeC, I.pin, I.hok, I.len⟩
theorem SP.unwish {D : Ends} {f : Flow} {s' : Shared} (h : SP (X.wish E) pins D f s') : SP X pins D f s' := by
  cases f with
  | next => obtain ⟨σ', H', I, q⟩ := h; exact ⟨σ', H', I.unwish, q⟩
  | brk => obtain ⟨σ', H', I, q⟩ := h; exact ⟨σ', H', I.unwish, q⟩
  | cont => obtain ⟨σ', H', I, q⟩ := h; exact ⟨σ', H', I.unwish, q⟩
  | ret u => obtain ⟨v, σ', H', I, r, q⟩ := h; exact ⟨v, σ', H', I.unwish, r, q⟩
theorem PSs.nox {st : List Stmt} {t : TS} (h : PSs X.nox st t) : PSs X st t := fun pins s σ H D I hw =>
  wpAny_mono (h pins s σ H D (I.wish _) hw) (fun _ _ q => q.unwish) fun _ _ z => False.elim z
end

/-! ### blocks and small statements -/
section
variable {X : Cx} {st : Stmt} {rest : List Stmt} {t u : TS} {e : Expr} {te : TE} {pos : Pos}
def tNext : TS := fun D σ H => D.nx σ H
def tSeq (t u : TS) : TS := fun D σ H => t { D with nx := u D } σ H
theorem pss_nil : PSs X [] tNext := fun _ _ σ H _ I h => wpAny_execs_nil ⟨σ, H, I, h⟩
theorem pss_cons (h1 : PS X st t) (h2 : PSs X rest u) : PSs X (st :: rest) (tSeq t u) := by
  intro pins s σ H D I h
  refine wpAny_execs_cons (thn (h1 pins s σ H { D with nx := u D } I h) fun f s1 q => ?_)
  cases f with
  | next =>
    obtain ⟨σ', H', I', q⟩ := q
    exact h2 pins s1 σ' H' D I' q
  | ret v => exact q
  | brk => exact q
  | cont => exact q
theorem pss_one (h1 : PS X st t) : PSs X [st] t := by
  intro pins s σ H D I h
  refine wpAny_execs_cons (thn (h1 pins s σ H D I h) fun f s1 q => ?_)
  cases f with
  | next => exact wpAny_execs_nil q
  | ret v => exact q
  | brk => exact q
  | cont => exact q
/-- in a def's body nothing is shown -/
theorem Inv.quiet {pins : List (Addr × Obj)} {σ : St} {H : Hp} {s : Shared} (I : Inv X pins σ H s) : interactive X.env = false := by simp [interactive, I.ok.kind]
/-- an expression whose value is dropped -/
def tDrop (te : TE) : TS := fun D σ H => te σ H fun _ H1 => D.nx σ H1
theorem ps_expr (he : PE X e te) (hs : swapsWith e none pos.line X.env = pure false := by rfl) : PS X (.Expr e pos) (tDrop te) := by
  intro pins s σ H D I h
  exact wpAny_Expr_any (thn (he pins s σ H _ I h) fun v s1 ⟨x, H1, I1, r1, q1⟩ => ⟨σ, H1, I1, q1⟩) I.quiet hs
def tRet (te : TE) : TS := fun D σ H => te σ H D.rt
theorem ps_ret (he : PE X e te) : PS X (.Return (some e) pos) (tRet te) := by
  intro pins s σ H D I h
  exact wpAny_Return_some (thn (he pins s σ H _ I h) fun v s1 ⟨x, H1, I1, r1, q1⟩ => ⟨x, σ, H1, I1, r1, q1⟩)
def tIfS (c : TT) (t u : TS) : TS := fun D σ H => c σ H fun b H1 => if b = true then t D σ H1 else u D σ H1
theorem ps_if {c : Expr} {a b : List Stmt} {tc : TT} (hc : PT X c tc) (ha : PSs X a t) (hb : PSs X b u) : PS X (.If c a b pos) (tIfS tc t u) := by
  intro pins s σ H D I h
  refine wpAny_If (thn (hc pins s σ H _ I h) fun d s1 ⟨H1, I1, q1⟩ => ?_)
  cases d with
  | true => exact ha pins s1 σ H1 D I1 q1
  | false => exact hb pins s1 σ H1 D I1 q1
end

/-! ### targets -/
abbrev TG := V → St → Hp → (St → Hp → Prop) → Prop
abbrev TGs := List V → St → Hp → (St → Hp → Prop) → Prop
def PG (X : Cx) (target : Expr) (t : TG) : Prop :=
  ∀ (pins : List (Addr × Obj)) (s : Shared) (σ : St) (H : Hp) (v : V) (u : Value) (Q : St → Hp → Prop), Inv X pins σ H s → RelV v u → t v σ H Q →
    wpAny (model X.prog X.w) X.A (assign target X.env u) (fun _ s' => ∃ σ' H', Inv X pins σ' H' s' ∧ Q σ' H') X.xe s
/-- several targets, one after another -/
def PGs (X : Cx) (ts : List Expr) (t : TGs) : Prop :=
  ∀ (pins : List (Addr × Obj)) (s : Shared) (σ : St) (H : Hp) (vs : List V) (us : List Value) (Q : St → Hp → Prop), Inv X pins σ H s → Vals vs us → t vs σ H Q →
    wpAny (model X.prog X.w) X.A (assignInOrder ((assignEach ts X.env).map (·.2)) us) (fun _ s' => ∃ σ' H', Inv X pins σ' H' s' ∧ Q σ' H') X.xe s
/-- o[i] = v, by values -/
abbrev TSet := V → V → V → Hp → (Hp → Prop) → Prop
def PSet (X : Cx) (t : TSet) : Prop :=
  ∀ (pins : List (Addr × Obj)) (s : Shared) (σ : St) (H : Hp) (o i v : V) (ov iv u : Value) (Q : Hp → Prop), Inv X pins σ H s → RelV o ov → RelV i iv → RelV v u → t o i v H Q →
    wpAny (model X.prog X.w) X.A (setItem ov iv u) (fun _ s' => ∃ H', Inv X pins σ H' s' ∧ Q H') X.xe s
section
variable {X : Cx} {pos : Pos}
def gName (i : Nat) : TG := fun v σ H Q => Q (σ.set i (some v)) H
theorem pg_name {i : Nat} {x : Str} (hN : X.N.Nodup) (hi : X.N[i]? = some x) (hx : Loc X.env.scope x) (hf : X.fn x = true ∨ X.env.scope.names.lookup x = some .local := by first | exact .inl rfl | exact .inr rfl | assumption) : PG X (.Name x pos) (gName i) := by
  intro pins s σ H v u Q I r h
  exact wpAny_assign_Name (store_ok I hN hi hx r (fun s' I' => ⟨_, H, I', h⟩) hf)
def gNil : TGs := fun vs σ H Q => vs = [] ∧ Q σ H
def gCons (t : TG) (u : TGs) : TGs := fun vs σ H Q => ∃ v r, vs = v :: r ∧ t v σ H fun σ' H' => u r σ' H' Q
theorem pgs_nil : PGs X [] gNil := by
  intro pins s σ H vs us Q I r h
  obtain ⟨e, h⟩ := h
  subst e
  cases r
  exact assignInOrder_nil ⟨σ, H, I, h⟩
theorem pgs_cons {e : Expr} {es : List Expr} {t : TG} {u : TGs} (h1 : PG X e t) (h2 : PGs X es u)
    (hs : (assignEach (e :: es) X.env).map (·.2) = assign e X.env :: (assignEach es X.env).map (·.2) := by rfl) : PGs X (e :: es) (gCons t u) := by
  intro pins s σ H vs us Q I r h
  obtain ⟨v, vr, e1, h⟩ := h
  subst e1
  cases r with
  | cons r rr =>
    rw [hs]
    refine assignInOrder_cons (thn (h1 pins s σ H _ _ _ I r h) fun _ s1 ⟨σ1, H1, I1, q1⟩ => ?_)
    exact h2 pins s1 σ1 H1 _ _ Q I1 rr q1
/-- (a, b, ..) = a tuple of that length -/
def gTup (K : PySem.W.Frag) (n : Nat) (t : TGs) : TG := fun v σ H Q => ∃ a xs, v = .ref a ∧ SqT K H a xs ∧ xs.length = n ∧ t xs σ H Q
theorem pg_tup {es : List Expr} {k : Nat} {t : TGs} {n : Nat} (hc : X.calm = true) (h : PGs X es t)
    (hn : (assignEach es X.env).length = n := by rfl) (hst : (assignEach es X.env).findIdx? (·.1) = none := by rfl) : PG X (.Tuple es k pos) (gTup X.K n t) := by
  intro pins s σ H v u Q I r hw
  obtain ⟨a, xs, e1, hq, hl, hw⟩ := hw
  subst e1
  cases r
  obtain ⟨its, rv, ht, hz⟩ := I.tuple hq
  refine assign_Tuple_tuple (I.ok.hd hc) ht (by simp [hn, ← hl, rv.length]) hst fun h' hx => ?_
  have I1 : Inv X pins σ H { s with heap := h' } := I.kept (t' := s.toks) fun b o e => hx b o (Nat.ne_of_lt (Heap.lt_size e)) e
  exact h pins _ σ H xs _ Q I1 (by simpa using rv) hw
/-- o[i] = .. -/
def gSub (to ti : TE) (t : TSet) : TG := fun v σ H Q => to σ H fun o H1 => ti σ H1 fun i H2 => t o i v H2 fun H3 => Q σ H3
theorem pg_sub {o i : Expr} {to ti : TE} {t : TSet} (ho : PE X o to) (hi : PE X i ti) (hs : PSet X t)
    (ha : ∀ v, assign (.Subscript o i pos) X.env v = (do
      let ov ← holding [v] (eval o X.env)
      let iv ← holding [v, ov] (eval i X.env)
      standAt pos
      holding [v, ov, iv] (setItem ov iv v)
      release [v, ov, iv] []) := by intro _; rfl) : PG X (.Subscript o i pos) (gSub to ti t) := by
  intro pins s σ H v u Q I r h
  rw [ha]
  refine wpAny_bind (wpAny_holding (thn (ho pins s σ H _ I h) fun ov s1 ⟨x, H1, I1, r1, q1⟩ => ?_))
  refine wpAny_bind (wpAny_holding (thn (hi pins s1 σ H1 _ I1 q1) fun iv s2 ⟨y, H2, I2, r2, q2⟩ => ?_))
  refine wpAny_bind (wpAny_standAt (wpAny_bind (wpAny_holding (thn (hs pins s2 σ H2 x y v ov iv u _ I2 r1 r2 r q2) fun _ s3 ⟨H3, I3, q3⟩ => ?_))))
  exact wpAny_release ⟨σ, H3, I3, q3⟩
/-- target = value -/
def tAsg (te : TE) (g : TG) : TS := fun D σ H => te σ H fun x H1 => g x σ H1 D.nx
theorem ps_asg {tg e : Expr} {te : TE} {g : TG} (he : PE X e te) (hg : PG X tg g) (hs : swapsWithSole [tg] e pos.line X.env = pure false := by rfl) (hw : swappedStores [tg] e X.env = pure none := by rfl)
    (h1 : (assignEach [tg] X.env).map (·.2) = [assign tg X.env] := by rfl) : PS X (.Assign [tg] e pos) (tAsg te g) := by
  intro pins s σ H D I h
  refine wpAny_Assign_stores (thn (he pins s σ H _ I h) fun v s1 ⟨x, H1, I1, r1, q1⟩ => ?_) hs hw
  rw [h1]
  exact thn (hg pins s1 σ H1 x v _ I1 r1 q1) fun _ s2 q => q
/-- name = value -/
theorem ps_set {i : Nat} {x : Str} {e : Expr} {te : TE} {pos' : Pos} (hN : X.N.Nodup) (hi : X.N[i]? = some x) (hx : Loc X.env.scope x) (he : PE X e te) (hs : swapsWith e (some (.Name x pos')) pos.line X.env = pure false := by rfl) (hf : X.fn x = true ∨ X.env.scope.names.lookup x = some .local := by first | exact .inl rfl | exact .inr rfl | assumption) :
    PS X (.Assign [.Name x pos'] e pos) (tAsg te (gName i)) := by
  intro pins s σ H D I h
  refine wpAny_Assign_Name (thn (he pins s σ H _ I h) fun v s1 ⟨y, H1, I1, r1, q1⟩ => ?_) hs
  exact store_ok I1 hN hi hx r1 (fun s2 I2 => ⟨_, H1, I2, q1⟩) hf
end

/-! ### while -/
section
variable {X : Cx} {pos : Pos}
end

/-! ### what a loop or a comprehension walks -/
/-- at turn i: it yields x (the heap may grow), or it stops -/
structure It where
  go : Nat → Hp → Prop
  yld : Nat → Hp → V → Hp → Prop
  stop : Nat → Hp → Prop
/-- the iterator's own objects may turn: they are not the frame's, not pinned, younger than the entry (or a comprehension's own) -/
def FpOk (X : Cx) (pins : List (Addr × Obj)) (H : Hp) (b : Addr) : Prop :=
  H b = none ∧ b ≠ X.env.locals ∧ b ∉ X.fs ∧ (b ∈ X.ex ∨ X.s₀.heap.objs.size ≤ b) ∧ (∀ x c, X.env.cells.lookup x = some c → c ≠ b) ∧ ∀ p ∈ X.pn ++ pins, p.1 ≠ b
theorem Inv.fpOk {X : Cx} {pins : List (Addr × Obj)} {σ : St} {H H' : Hp} {s : Shared} {b : Addr} (I : Inv X pins σ H s) (hb : s.heap.objs.size ≤ b) (hn : H' b = none) : FpOk X pins H' b := by
  refine ⟨hn, Nat.ne_of_gt (Nat.lt_of_lt_of_le I.lt hb), I.nofs hb, .inr (Nat.le_trans I.sz hb), fun x c e z => ?_, fun p hp z => ?_⟩
  · obtain ⟨v, q⟩ := I.cell x c e
    exact absurd (Nat.lt_of_lt_of_le q.lt (by rw [z]; exact hb)) (Nat.lt_irrefl _)
  · exact absurd (Nat.lt_of_lt_of_le (Heap.lt_size (I.pin p hp).1) (by rw [z]; exact hb)) (Nat.lt_irrefl _)
structure Turn (P : Program) (w : World) (K : PySem.W.Frag) (tg : Expr) (J : It) (fp : List Addr) (it : Addr) (tn : Nat → Heap → Prop) : Prop where
  mem : it ∈ fp
  obj : ∀ i h, tn i h → ∀ b ∈ fp, ∃ o, h.get? b = some o ∧ ∀ v, o.data ≠ .cell v
  keep : ∀ i h h', tn i h → (∀ b ∈ fp, ∀ o, h.get? b = some o → h'.get? b = some o) → tn i h'
  item : ∀ (X : Cx), X.prog = P → X.w = w → X.K = K → X.calm = true → ∀ (i : Nat) (pins : List (Addr × Obj)) (s : Shared) (σ : St) (H : Hp) (E : Value → Shared → Prop), Inv X pins σ H s → (∀ b ∈ fp, FpOk X pins H b) → tn i s.heap → J.go i H →
    wpAny (model P w) X.A (pyNext (.ref it)) (fun r s1 => ∃ u, r = some u ∧
      wpAny (model P w) X.A (letOwnedTupleGo tg (.ref it) u) (fun _ s2 => ∃ x H', Inv X pins σ H' s2 ∧ RelV x u ∧ J.yld i H x H' ∧ tn (i + 1) s2.heap ∧ ∀ b ∈ fp, H' b = none) E s1) E s
  done : ∀ (X : Cx), X.prog = P → X.w = w → X.K = K → X.calm = true → ∀ (i : Nat) (pins : List (Addr × Obj)) (s : Shared) (σ : St) (H : Hp) (E : Value → Shared → Prop), Inv X pins σ H s → (∀ b ∈ fp, FpOk X pins H b) → tn i s.heap → J.stop i H →
    wpAny (model P w) X.A (pyNext (.ref it)) (fun r s1 => r = none ∧ Inv X pins σ H s1) E s
  self : ∀ (A : Around) (i : Nat) (s : Shared) (Q : Value → Shared → Prop) (E : Value → Shared → Prop), tn i s.heap → Q (.ref it) s → wpAny (model P w) A (pyIter (.ref it)) Q E s
abbrev TI := St → Hp → (It → Hp → Prop) → Prop
/-- an iterator has come -/
def PIE (X : Cx) (pins : List (Addr × Obj)) (σ : St) (tg : Expr) (R : It → Hp → Prop) (itv : Value) (s2 : Shared) : Prop :=
  ∃ (it : Addr) (fp : List Addr) (tn : Nat → Heap → Prop) (J : It) (H' : Hp), itv = .ref it ∧ Inv X pins σ H' s2 ∧ Turn X.prog X.w X.K tg J fp it tn ∧ tn 0 s2.heap ∧ (∀ b ∈ fp, FpOk X pins H' b) ∧ R J H'
def PI (X : Cx) (tg iter : Expr) (wi : TI) : Prop :=
  ∀ (pins : List (Addr × Obj)) (s : Shared) (σ : St) (H : Hp) (R : It → Hp → Prop), Inv X pins σ H s → wi σ H R →
    wpAny (model X.prog X.w) X.A (eval iter X.env) (fun v s1 => wpAny (model X.prog X.w) X.A (pyIter v) (PIE X pins σ tg R) X.xe s1) X.xe s

/-- the step ahead of the store is nothing for an iterator that keeps no tuple -/
theorem go_of {M : Model} {A : Around} {E : Value → Shared → Prop} {s : Shared} {tg : Expr} {it : Addr} {u : Value} {o : Obj} {n : String} {vs : Array Value} {Q : Unit → Shared → Prop} (ho : s.heap.get? it = some o) (hc : o.cls = .type n) (hd : o.data = .fields vs)
    (hn : ["enumerate", "zip", "dict_itemiterator", "dict_reverseitemiterator", "odict_iterator", "itertools.zip_longest", "itertools.pairwise"].contains n = false) (hQ : Q () s) : wpAny M A (letOwnedTupleGo tg (.ref it) u) Q E s := by
  unfold letOwnedTupleGo
  cases tg <;> first
    | exact wpAny_pure hQ
    | (cases u <;> first
        | exact wpAny_pure hQ
        | (refine wpAny_bind (wpAny_load ho ?_)
           rw [hc, hd]
           show wpAny M A (if (["enumerate", "zip", "dict_itemiterator", "dict_reverseitemiterator", "odict_iterator", "itertools.zip_longest", "itertools.pairwise"].contains n && vs[0]? == some (rawInt _)) = true then _ else _) Q E s
           rw [if_neg (by intro h; rw [hn, Bool.false_and] at h; cases h)]
           exact wpAny_pure hQ))

/-- the list at a, as it stands at each turn (a loop may append to it) -/
def Itl (K : PySem.W.Frag) (a : Addr) : It :=
  ⟨fun i H => ∃ xs x, SqL K H a xs ∧ xs[i]? = some x, fun i H x H' => H' = H ∧ ∀ xs, SqL K H a xs → xs[i]? = some x, fun i H => ∃ xs, SqL K H a xs ∧ xs.length ≤ i⟩
def Itt (K : PySem.W.Frag) (a : Addr) : It :=
  ⟨fun i H => ∃ xs x, SqT K H a xs ∧ xs[i]? = some x, fun i H x H' => H' = H ∧ ∀ xs, SqT K H a xs → xs[i]? = some x, fun i H => ∃ xs, SqT K H a xs ∧ xs.length ≤ i⟩
/-- lo, lo + 1, .. (n of them) -/
def Itr (lo : Int) (n : Nat) : It := ⟨fun i _ => i < n, fun i H x H' => H' = H ∧ x = .int (lo + i), fun i _ => n ≤ i⟩
theorem turn_list {P : Program} {w : World} {K : PySem.W.Frag} {tg : Expr} (a it : Addr) : Turn P w K tg (Itl K a) [it] it (fun i h => h.IsListIter it a i) where
  mem := by simp
  obj := fun i h st b hb => by
    have e : b = it := by simpa using hb
    subst e
    obtain ⟨o, e, c, d⟩ := st
    exact ⟨o, e, fun v z => by rw [d] at z; cases z⟩
  keep := fun i h h' st k => st.at fun o e => k it (by simp) o e
  item := by
    intro X hP hw hK hc i pins s σ H E I hf st hg
    subst hP hw hK
    obtain ⟨xs, x, hq, hx⟩ := hg
    obtain ⟨its, rv, p, hz⟩ := I.list hq
    obtain ⟨u, hu, ru⟩ := rv.get hx
    obtain ⟨f0, f1, f2, f3, f4, f5⟩ := hf it (by simp)
    refine wpAny_pyNext_list_item st p.isList (x := u) (by simpa using hu) fun h' st' sb => ?_
    have I1 : Inv X pins σ H { s with heap := h' } := I.turned (t' := s.toks) (fun b o hb e => (sb.2 b hb).trans e) f0 f1 f3 f4 f5
    obtain ⟨o, e, c, d⟩ := id st'
    exact ⟨u, rfl, go_of (s := { s with heap := h' }) e c d (by decide) ⟨x, H, I1, ru, ⟨rfl, fun ys hy => by rw [I.list_inj hy hq]; exact hx⟩, st', fun b hb => (hf b hb).1⟩⟩
  done := by
    intro X hP hw hK hc i pins s σ H E I hf st hg
    subst hP hw hK
    obtain ⟨xs, hq, hx⟩ := hg
    obtain ⟨its, rv, p, hz⟩ := I.list hq
    obtain ⟨f0, f1, f2, f3, f4, f5⟩ := hf it (by simp)
    have hl := rv.length
    exact wpAny_pyNext_list_end (I.ok.hd hc) st p.isList (by simp; omega) fun h' eb => ⟨rfl, I.turned (t' := s.toks) (fun b o hb e => eb b o hb e) f0 f1 f3 f4 f5⟩
  self := fun _ _ _ _ _ st h => wpAny_pyIter_listiter st h
theorem turn_tuple {P : Program} {w : World} {K : PySem.W.Frag} {tg : Expr} (a it : Addr) : Turn P w K tg (Itt K a) [it] it (fun i h => h.IsTupleIter it a i) where
  mem := by simp
  obj := fun i h st b hb => by
    have e : b = it := by simpa using hb
    subst e
    obtain ⟨o, e, c, d⟩ := st
    exact ⟨o, e, fun v z => by rw [d] at z; cases z⟩
  keep := fun i h h' st k => st.at fun o e => k it (by simp) o e
  item := by
    intro X hP hw hK hc i pins s σ H E I hf st hg
    subst hP hw hK
    obtain ⟨xs, x, hq, hx⟩ := hg
    obtain ⟨its, rv, p, hz⟩ := I.tuple hq
    obtain ⟨u, hu, ru⟩ := rv.get hx
    obtain ⟨f0, f1, f2, f3, f4, f5⟩ := hf it (by simp)
    refine wpAny_pyNext_tuple_item st (show s.heap.IsTuple a its.toArray from p) (x := u) (by simpa using hu) fun h' st' sb => ?_
    have I1 : Inv X pins σ H { s with heap := h' } := I.turned (t' := s.toks) (fun b o hb e => (sb.2 b hb).trans e) f0 f1 f3 f4 f5
    obtain ⟨o, e, c, d⟩ := id st'
    exact ⟨u, rfl, go_of (s := { s with heap := h' }) e c d (by decide) ⟨x, H, I1, ru, ⟨rfl, fun ys hy => by rw [I.tuple_inj hy hq]; exact hx⟩, st', fun b hb => (hf b hb).1⟩⟩
  done := by
    intro X hP hw hK hc i pins s σ H E I hf st hg
    subst hP hw hK
    obtain ⟨xs, hq, hx⟩ := hg
    obtain ⟨its, rv, p, hz⟩ := I.tuple hq
    obtain ⟨f0, f1, f2, f3, f4, f5⟩ := hf it (by simp)
    have hl := rv.length
    exact wpAny_pyNext_tuple_end (I.ok.hd hc) st (show s.heap.IsTuple a its.toArray from p) (by simp; omega) fun h' eb => ⟨rfl, I.turned (t' := s.toks) (fun b o hb e => eb b o hb e) f0 f1 f3 f4 f5⟩
  self := fun _ _ _ _ _ st h => wpAny_pyIter_tupleiter st h
theorem turn_range {P : Program} {w : World} {K : PySem.W.Frag} {tg : Expr} (it : Addr) (lo : Int) (n : Nat) : Turn P w K tg (Itr lo n) [it] it (fun i h => IsRangeIter h it (lo + (i : Nat) * 1) ((n : Int) - (i : Nat)) 1) where
  mem := by simp
  obj := fun i h st b hb => by
    have e : b = it := by simpa using hb
    subst e
    exact ⟨_, st, fun v z => by
      have z' : Data.fields _ = Data.cell v := z
      cases z'⟩
  keep := fun i h h' st k => k it (by simp) _ st
  item := by
    intro X hP hw hK hc i pins s σ H E I hf st hg
    subst hP hw hK
    obtain ⟨f0, f1, f2, f3, f4, f5⟩ := hf it (by simp)
    have W := Walks.range (prog := X.prog) (w := X.w) (I.ok.hd hc) it lo 1 n
    refine W.item i s _ _ hg st fun v h' tk hv st' kk => ?_
    obtain ⟨t, rfl⟩ := hv
    have I1 : Inv X pins σ H { s with heap := h', toks := tk } := I.turned (fun b o hb e => kk b o (by simpa using hb) e) f0 f1 f3 f4 f5
    refine ⟨_, rfl, go_of (s := { s with heap := h', toks := tk }) (n := "range_iterator") st' rfl rfl (by decide) ⟨.int (lo + i), H, I1, ⟨t, ?_⟩, ⟨rfl, rfl⟩, st', fun b hb => (hf b hb).1⟩⟩
    rw [Int.mul_one]
  done := by
    intro X hP hw hK hc i pins s σ H E I hf st hg
    subst hP hw hK
    obtain ⟨f0, f1, f2, f3, f4, f5⟩ := hf it (by simp)
    exact wpAny_pyNext_range_end (I.ok.hd hc) st (by have : n ≤ i := hg; omega) fun h' eb => ⟨rfl, I.turned (t' := s.toks) (fun b o hb e => eb b o hb e) f0 f1 f3 f4 f5⟩
  self := fun _ _ _ _ _ st h => wpAny_pyIter_rangeiter st h
end L2

namespace L2
open PySem PySem.Spec PyProof.Rows
section
variable {X : Cx} {tg : Expr}
def iList (K : PySem.W.Frag) (tl : TE) : TI := fun σ H R => tl σ H fun x H1 => ∃ a, x = .ref a ∧ (∃ xs, SqL K H1 a xs) ∧ R (Itl K a) H1
def iTup (K : PySem.W.Frag) (tl : TE) : TI := fun σ H R => tl σ H fun x H1 => ∃ a, x = .ref a ∧ (∃ xs, SqT K H1 a xs) ∧ R (Itt K a) H1
theorem pi_list {l : Expr} {tl : TE} (hl : PE X l tl) : PI X tg l (iList X.K tl) := by
  intro pins s σ H R I h
  refine thn (hl pins s σ H _ I h) fun v s1 ⟨x, H1, I1, r1, q1⟩ => ?_
  obtain ⟨a, e, ⟨xs, hq⟩, q⟩ := q1
  subst e
  cases r1
  obtain ⟨its, rv, p, hz⟩ := I1.list hq
  refine wpAny_pyIter_list p.isList ?_
  refine ⟨s1.heap.objs.size, [s1.heap.objs.size], _, _, H1, rfl, I1.kept (t' := s1.toks) fun b o e => Heap.get?_push_of_some _ e, turn_list a _, ⟨_, Heap.get?_push_size _ rfl, rfl, rfl⟩, fun b hb => ?_, q⟩
  have e : b = s1.heap.objs.size := by simpa using hb
  subst e
  exact I1.fpOk (Nat.le_refl _) (I1.hok.fresh (Nat.le_refl _))
theorem pi_tup {l : Expr} {tl : TE} (hl : PE X l tl) : PI X tg l (iTup X.K tl) := by
  intro pins s σ H R I h
  refine thn (hl pins s σ H _ I h) fun v s1 ⟨x, H1, I1, r1, q1⟩ => ?_
  obtain ⟨a, e, ⟨xs, hq⟩, q⟩ := q1
  subst e
  cases r1
  obtain ⟨its, rv, p, hz⟩ := I1.tuple hq
  refine wpAny_pyIter_tuple (show s1.heap.IsTuple a its.toArray from p) ?_
  refine ⟨s1.heap.objs.size, [s1.heap.objs.size], _, _, H1, rfl, I1.kept (t' := s1.toks) fun b o e => Heap.get?_push_of_some _ e, turn_tuple a _, ⟨_, Heap.get?_push_size _ rfl, rfl, rfl⟩, fun b hb => ?_, q⟩
  have e : b = s1.heap.objs.size := by simpa using hb
  subst e
  exact I1.fpOk (Nat.le_refl _) (I1.hok.fresh (Nat.le_refl _))
/-- a range object just made, walked -/
theorem range_it {pins : List (Addr × Obj)} {σ : St} {H : Hp} {s : Shared} {R : It → Hp → Prop} {E : Value → Shared → Prop} {lo hi : Int} {t u v : Tok} {tk : Nat} (I : Inv X pins σ H s) (h1 : -(2 ^ 62) ≤ lo) (h2 : lo < 2 ^ 62) (h3 : -(2 ^ 62) ≤ hi) (h4 : hi < 2 ^ 62)
    (q : R (Itr lo (hi - lo).toNat) H) : wpAny (model X.prog X.w) X.A (pyIter (.ref s.heap.objs.size)) (PIE X pins σ tg R) E { s with heap := s.heap.push { cls := .type "range", data := .fields #[.int lo t, .int hi u, .int 1 v] }, toks := tk } := by
  refine wpAny_pyIter_range (IsRange.new ..) (small_one h1 h2 h3 h4) ?_
  have I1 : Inv X pins σ H { s with heap := s.heap.push { cls := .type "range", data := .fields #[.int lo t, .int hi u, .int 1 v] }, toks := tk } := I.kept fun b o e => Heap.get?_push_of_some _ e
  refine ⟨(s.heap.push { cls := .type "range", data := .fields #[.int lo t, .int hi u, .int 1 v] }).objs.size, [(s.heap.push { cls := .type "range", data := .fields #[.int lo t, .int hi u, .int 1 v] }).objs.size], _, _, H, rfl,
    I1.kept (t' := tk) fun b o e => Heap.get?_push_of_some _ e, turn_range _ lo (hi - lo).toNat, ?_, fun b hb => ?_, q⟩
  · have e1 : lo + ((0 : Nat) : Int) * 1 = lo := by simp
    have e2 : (((hi - lo).toNat : Nat) : Int) - ((0 : Nat) : Int) = Builtin.Range.rangeSize lo hi 1 := by rw [rangeSize_one]; split <;> omega
    show IsRangeIter _ _ (lo + ((0 : Nat) : Int) * 1) ((((hi - lo).toNat : Nat) : Int) - ((0 : Nat) : Int)) 1
    rw [e1, e2]
    exact Heap.get?_push_size _ rfl
  · have e : b = (s.heap.push { cls := .type "range", data := .fields #[.int lo t, .int hi u, .int 1 v] }).objs.size := by simpa using hb
    subst e
    exact I1.fpOk (Nat.le_refl _) (I1.hok.fresh (Nat.le_refl _))
def iRng1 (ta : TA) : TI := fun σ H R => ta σ H fun vs H1 => ∃ j : Int, vs = [.int j] ∧ -(2 ^ 62) ≤ j ∧ j < 2 ^ 62 ∧ R (Itr 0 j.toNat) H1
def iRng2 (ta : TA) : TI := fun σ H R => ta σ H fun vs H1 => ∃ i j : Int, vs = [.int i, .int j] ∧ (-(2 ^ 62) ≤ i ∧ i < 2 ^ 62 ∧ -(2 ^ 62) ≤ j ∧ j < 2 ^ 62) ∧ R (Itr i (j - i).toNat) H1
theorem pi_range1 {a : Expr} {ta : TA} {p pos : Pos} (hg : Gl X "range") (hm : X.mg "range" = none) (ha : PA X [a] ta) (hs : starEach [a] X.env = [(false, eval a X.env)] := by rfl) : PI X tg (.Call (.Name "range" p) [a] [] pos) (iRng1 ta) := by
  intro pins s σ H R I h
  refine Call_ (ld_blt I hg hm boot_range (PyProof.Rows.callWith_type1 (thn (ha pos pins s σ H _ I h) fun us s1 ⟨vs, H1, I1, r1, q1⟩ => ?_) hs rfl))
  obtain ⟨j, e, q1, q2, q⟩ := q1
  subst e
  cases r1 with
  | cons r rr =>
    cases rr
    obtain ⟨t, rfl⟩ := r
    exact call_range_1 (range_it I1 (by omega) (by omega) q1 q2 (by simpa using q))
theorem pi_range2 {a b : Expr} {ta : TA} {p pos : Pos} (hg : Gl X "range") (hm : X.mg "range" = none) (ha : PA X [a, b] ta) (hs : starEach [a, b] X.env = [(false, eval a X.env), (false, eval b X.env)] := by rfl) (hs2 : starEach [b] X.env = [(false, eval b X.env)] := by rfl) :
    PI X tg (.Call (.Name "range" p) [a, b] [] pos) (iRng2 ta) := by
  intro pins s σ H R I h
  refine Call_ (ld_blt I hg hm boot_range (PyProof.Rows.callWith_type1 (thn (ha pos pins s σ H _ I h) fun us s1 ⟨vs, H1, I1, r1, q1⟩ => ?_) (by rw [hs, hs2]) (by rw [hs2]; rfl)))
  obtain ⟨i, j, e, ⟨q1, q2, q3, q4⟩, q⟩ := q1
  subst e
  cases r1 with
  | cons r rr =>
    cases rr with
    | cons r' rr =>
      cases rr
      obtain ⟨t, rfl⟩ := r
      obtain ⟨t', rfl⟩ := r'
      exact call_range_2 (range_it I1 q1 q2 q3 q4 q)

/-! ### for -/
/-- W: the invariant by the turn and a measure; N: what the body is to reach -/
def tFor (wi : TI) (g : TG) (tb : TS) : TS := fun D σ H => wi σ H fun J H1 => ∃ W : Nat → Nat → St → Hp → Prop, (∃ m, W 0 m σ H1) ∧ ∀ i m σ H, W i m σ H →
  (J.stop i H ∧ D.nx σ H) ∨ (J.go i H ∧ ∃ N : St → Hp → Prop, (∀ σ' H', N σ' H' → ∃ m', m' < m ∧ W (i + 1) m' σ' H') ∧ ∀ x H', J.yld i H x H' → g x σ H' fun σ2 H2 => tb { D with nx := N, ct := N, bk := D.nx } σ2 H2)
/-- the records at fp as they stand -/
def pinsAt (fp : List Addr) (h : Heap) : List (Addr × Obj) := fp.filterMap fun b => (h.get? b).map fun o => (b, o)
theorem mem_pinsAt {fp : List Addr} {h : Heap} {b : Addr} {o : Obj} (hb : b ∈ fp) (e : h.get? b = some o) : (b, o) ∈ pinsAt fp h := List.mem_filterMap.mpr ⟨b, hb, by rw [e]; rfl⟩
theorem of_pinsAt {fp : List Addr} {h : Heap} {p : Addr × Obj} (hp : p ∈ pinsAt fp h) : p.1 ∈ fp ∧ h.get? p.1 = some p.2 := by
  obtain ⟨b, hb, e⟩ := List.mem_filterMap.mp hp
  cases q : h.get? b with
  | none => rw [q] at e; cases e
  | some o =>
    rw [q] at e
    have e' : (b, o) = p := Option.some.inj e
    subst e'
    exact ⟨hb, q⟩
theorem Inv.pinned {pins : List (Addr × Obj)} {σ : St} {H : Hp} {s : Shared} {fp : List Addr} (I : Inv X pins σ H s) (hf : ∀ b ∈ fp, FpOk X pins H b) (ho : ∀ b ∈ fp, ∃ o, s.heap.get? b = some o ∧ ∀ v, o.data ≠ .cell v) : Inv X (pins ++ pinsAt fp s.heap) σ H s :=
  I.pins_of fun p hp => (List.mem_append.mp hp).elim (fun z => I.pin p (List.mem_append_right _ z)) fun z => by
    obtain ⟨hb, e⟩ := of_pinsAt z
    obtain ⟨f0, f1, f2, _⟩ := hf p.1 hb
    obtain ⟨o, e', d⟩ := ho p.1 hb
    rw [e] at e'; cases e'
    exact ⟨e, f0, f1, f2, d⟩
theorem Inv.unpinned {pins pl : List (Addr × Obj)} {σ : St} {H : Hp} {s : Shared} (I : Inv X (pins ++ pl) σ H s) : Inv X pins σ H s := I.pins_of fun p hp => I.pin p (List.mem_append_right _ (List.mem_append_left _ hp))
theorem ps_for {iter : Expr} {body : List Stmt} {wi : TI} {g : TG} {tb : TS} {pos : Pos} (hp : PassesOwn (model X.prog X.w) X.A X.env X.xe) (hc : X.calm = true) (hi : PI X tg iter wi) (hg : PG X tg g) (hb : PSs X body tb)
    (hs : ∀ x, foldedSetIterable iter X.env x = pure x := by intro _; rfl) : PS X (.For tg iter body [] pos) (tFor wi g tb) := by
  intro pins s σ H D I h
  refine wpAny_For (thn (hi pins s σ H _ I h) fun v s1 h1 => thn h1 fun itv s2 h2 => ?_) hs
  obtain ⟨it, fp, tn, J, H2, e, I2, T, st2, f2, W, ⟨m0, w0⟩, turn⟩ := h2
  subst e
  -- what stays true of the iterator's objects through the loop
  have stat : ∀ {H' : Hp}, (∀ b ∈ fp, H' b = none) → ∀ b ∈ fp, FpOk X pins H' b := fun hn b hb => ⟨hn b hb, (f2 b hb).2⟩
  refine codeAny_forLoop_any (fun n s' => ∃ i σ' H', Inv X pins σ' H' s' ∧ tn i s'.heap ∧ (∀ b ∈ fp, H' b = none) ∧ W i n σ' H') ?_ m0 ⟨0, σ, H2, I2, st2, fun b hb => (f2 b hb).1, w0⟩
  rintro n s3 ⟨i, σ3, H3, I3, st3, fr3, w3⟩
  rcases turn i n σ3 H3 w3 with ⟨stop, qn⟩ | ⟨go, N, hN, step⟩
  · refine wpAny_passesOwn hp (thn (T.done X rfl rfl rfl hc i pins s3 σ3 H3 X.xe I3 (stat fr3) st3 stop) fun r s4 ⟨hr, I4⟩ => ?_)
    subst hr
    exact wpAny_execs_nil ⟨σ3, H3, I4, qn⟩
  · refine wpAny_passesOwn hp (thn (T.item X rfl rfl rfl hc i pins s3 σ3 H3 X.xe I3 (stat fr3) st3 go) fun r s4 ⟨u, hr, h4⟩ => ?_)
    subst hr
    refine wpAny_passesOwn hp (thn h4 fun _ s5 ⟨x, H5, I5, r5, y5, st5, fr5⟩ => ?_)
    have I5' := I5.pinned (stat fr5) (T.obj _ _ st5)
    refine wpAny_passesOwn hp (thn (hg _ s5 σ3 H5 x u _ I5' r5 (step x H5 y5)) fun _ s6 ⟨σ6, H6, I6, q6⟩ => ?_)
    refine wpAny_passesOwn hp (thn (hb _ s6 σ6 H6 _ I6 q6) fun f s7 q7 => ?_)
    have again : ∀ {σ7 : St} {H7 : Hp}, Inv X (pins ++ pinsAt fp s5.heap) σ7 H7 s7 → N σ7 H7 → ∃ m, m < n ∧ ∃ i σ' H', Inv X pins σ' H' s7 ∧ tn i s7.heap ∧ (∀ b ∈ fp, H' b = none) ∧ W i m σ' H' := fun {σ7 H7} I7 n7 => by
      obtain ⟨m', hm, w7⟩ := hN σ7 H7 n7
      refine ⟨m', hm, i + 1, σ7, H7, I7.unpinned, T.keep _ _ _ st5 fun b hb o e => (I7.pin (b, o) (List.mem_append_right _ (List.mem_append_right _ (mem_pinsAt hb e)))).1, fun b hb => ?_, w7⟩
      obtain ⟨o, e, d⟩ := T.obj _ _ st5 b hb
      exact (I7.pin (b, o) (List.mem_append_right _ (List.mem_append_right _ (mem_pinsAt hb e)))).2.1
    cases f with
    | next => obtain ⟨σ7, H7, I7, n7⟩ := q7; exact again I7 n7
    | cont => obtain ⟨σ7, H7, I7, n7⟩ := q7; exact again I7 n7
    | brk => obtain ⟨σ7, H7, I7, q7⟩ := q7; exact ⟨σ7, H7, I7.unpinned, q7⟩
    | ret v => obtain ⟨x7, σ7, H7, I7, r7, q7⟩ := q7; exact ⟨x7, σ7, H7, I7.unpinned, r7, q7⟩
end

/-! ### the forms one uses -/
/-- over a list that the body leaves as it is -/
theorem for_list {K : PySem.W.Frag} {a : Addr} {xs : List V} {g : TG} {tb : TS} {D : Ends} {σ : St} {H : Hp} (Pv : Nat → St → Hp → Prop) (h0 : Pv 0 σ H) (hl : ∀ i σ H, i ≤ xs.length → Pv i σ H → SqL K H a xs)
    (hs : ∀ i x σ H, xs[i]? = some x → Pv i σ H → g x σ H fun σ2 H2 => tb { D with nx := Pv (i + 1), ct := Pv (i + 1), bk := D.nx } σ2 H2) (hd : ∀ σ H, Pv xs.length σ H → D.nx σ H) :
    ∃ W : Nat → Nat → St → Hp → Prop, (∃ m, W 0 m σ H) ∧ ∀ i m σ H, W i m σ H →
      ((Itl K a).stop i H ∧ D.nx σ H) ∨ ((Itl K a).go i H ∧ ∃ N : St → Hp → Prop, (∀ σ' H', N σ' H' → ∃ m', m' < m ∧ W (i + 1) m' σ' H') ∧ ∀ x H', (Itl K a).yld i H x H' → g x σ H' fun σ2 H2 => tb { D with nx := N, ct := N, bk := D.nx } σ2 H2) := by
  refine ⟨fun i m σ H => m = xs.length - i ∧ i ≤ xs.length ∧ Pv i σ H, ⟨xs.length, by simp, Nat.zero_le _, h0⟩, ?_⟩
  rintro i m σ H ⟨rfl, hi, p⟩
  have q := hl i σ H hi p
  by_cases hlt : i < xs.length
  · refine .inr ⟨⟨xs, xs[i], q, by simp [hlt]⟩, Pv (i + 1), fun σ' H' p' => ⟨xs.length - (i + 1), by omega, rfl, hlt, p'⟩, fun x H' y => ?_⟩
    obtain ⟨e, y⟩ := y
    subst e
    exact hs i x σ _ (y xs q) p
  · have e : i = xs.length := by omega
    subst e
    exact .inl ⟨⟨xs, q, Nat.le_refl _⟩, hd σ H p⟩
theorem for_range {lo : Int} {n : Nat} {g : TG} {tb : TS} {D : Ends} {σ : St} {H : Hp} (Pv : Nat → St → Hp → Prop) (h0 : Pv 0 σ H)
    (hs : ∀ i σ H, i < n → Pv i σ H → g (.int (lo + i)) σ H fun σ2 H2 => tb { D with nx := Pv (i + 1), ct := Pv (i + 1), bk := D.nx } σ2 H2) (hd : ∀ σ H, Pv n σ H → D.nx σ H) :
    ∃ W : Nat → Nat → St → Hp → Prop, (∃ m, W 0 m σ H) ∧ ∀ i m σ H, W i m σ H →
      ((Itr lo n).stop i H ∧ D.nx σ H) ∨ ((Itr lo n).go i H ∧ ∃ N : St → Hp → Prop, (∀ σ' H', N σ' H' → ∃ m', m' < m ∧ W (i + 1) m' σ' H') ∧ ∀ x H', (Itr lo n).yld i H x H' → g x σ H' fun σ2 H2 => tb { D with nx := N, ct := N, bk := D.nx } σ2 H2) := by
  refine ⟨fun i m σ H => m = n - i ∧ i ≤ n ∧ Pv i σ H, ⟨n, by simp, Nat.zero_le _, h0⟩, ?_⟩
  rintro i m σ H ⟨rfl, hi, p⟩
  by_cases hlt : i < n
  · refine .inr ⟨hlt, Pv (i + 1), fun σ' H' p' => ⟨n - (i + 1), by omega, rfl, hlt, p'⟩, fun x H' y => ?_⟩
    obtain ⟨e, y⟩ := y
    subst e y
    exact hs i σ _ hlt p
  · have e : i = n := by omega
    subst e
    exact .inl ⟨Nat.le_refl _, hd σ H p⟩
end L2

namespace L2
open PySem PySem.Spec PyProof.Rows

abbrev R2 := V → V → Hp → VK → Prop
/-- a two-place operation on values: f is binaryOp op, inplaceOp op or compareOp op -/
def OpR (X : Cx) (f : Value → Value → Sem Value) (r : R2) : Prop :=
  ∀ (pins : List (Addr × Obj)) (s : Shared) (σ : St) (H : Hp) (x y : V) (v u : Value) (Q : VK), Inv X pins σ H s → RelV x v → RelV y u → r x y H Q →
    wpAny (model X.prog X.w) X.A (f v u) (EP X pins σ Q) X.xe s
/-- a one-place operation -/
def UnR (X : Cx) (f : Value → Sem Value) (r : V → Hp → VK → Prop) : Prop :=
  ∀ (pins : List (Addr × Obj)) (s : Shared) (σ : St) (H : Hp) (x : V) (v : Value) (Q : VK), Inv X pins σ H s → RelV x v → r x H Q →
    wpAny (model X.prog X.w) X.A (f v) (EP X pins σ Q) X.xe s
/-- a call of a value that is known (a builtin, a type) with values -/
def CallR (X : Cx) (f : Value) (r : List V → Hp → VK → Prop) : Prop :=
  ∀ (pins : List (Addr × Obj)) (s : Shared) (σ : St) (H : Hp) (xs : List V) (us : List Value) (Q : VK), Inv X pins σ H s → Vals xs us → r xs H Q →
    wpAny (model X.prog X.w) X.A (call f us) (EP X pins σ Q) X.xe s
def tOp (r : R2) (ta tb : TE) : TE := fun σ H Q => ta σ H fun x H1 => tb σ H1 fun y H2 => r x y H2 Q
def tUn (r : V → Hp → VK → Prop) (ta : TE) : TE := fun σ H Q => ta σ H fun x H1 => r x H1 Q
/-- ints in, under C, and a value out -/
def rI (C : Int → Int → Prop) (g : Int → Int → V) : R2 := fun x y H Q => ∃ i j, x = .int i ∧ y = .int j ∧ C i j ∧ Q (g i j) H
def rI0 (g : Int → Int → V) : R2 := fun x y H Q => ∃ i j, x = .int i ∧ y = .int j ∧ Q (g i j) H
def rU (g : Int → V) : V → Hp → VK → Prop := fun x H Q => ∃ i, x = .int i ∧ Q (g i) H

section
variable {X : Cx} {a b c : Expr} {ta tb tc : TE} {pos : Pos}

theorem binT (ha : PE X a ta) (hb : PE X b tb) {pins : List (Addr × Obj)} {s : Shared} {σ : St} {H : Hp} {R : V → V → Hp → Prop} (I : Inv X pins σ H s)
    (h : ta σ H fun x H1 => tb σ H1 fun y H2 => R x y H2) {Q : Value → Shared → Prop} {f : Value → Value → Sem Value}
    (hf : ∀ v u s2 x y H2, Inv X pins σ H2 s2 → RelV x v → RelV y u → R x y H2 → wpAny (model X.prog X.w) X.A (f v u) Q X.xe s2) :
    wpAny (model X.prog X.w) X.A (eval a X.env) (fun v s₁ => wpAny (model X.prog X.w) X.A (eval b X.env) (fun u s₂ => wpAny (model X.prog X.w) X.A (f v u) Q X.xe s₂) X.xe s₁) X.xe s := by
  refine thn (ha pins s σ H _ I h) fun v s1 ⟨x, H1, I1, r1, q1⟩ => ?_
  refine thn (hb pins s1 σ H1 _ I1 q1) fun u s2 ⟨y, H2, I2, r2, q2⟩ => ?_
  exact hf v u s2 x y H2 I2 r1 r2 q2

theorem pe_op {op : Operator} {r : R2} (ho : OpR X (binaryOp op) r) (ha : PE X a ta) (hb : PE X b tb) : PE X (.BinOp a op b pos) (tOp r ta tb) := by
  intro pins s σ H Q I h
  exact wpAny_BinOp (binT ha hb I h fun v u s2 x y H2 I2 rx ry q => ho pins s2 σ H2 x y v u Q I2 rx ry q)
theorem pe_un {op : UnaryOp} {r : V → Hp → VK → Prop} (ho : UnR X (unaryOp op) r) (ha : PE X a ta) : PE X (.UnaryOp op a pos) (tUn r ta) := by
  intro pins s σ H Q I h
  exact UnaryOp_ (thn (ha pins s σ H _ I h) fun v s1 ⟨x, H1, I1, r1, q1⟩ => ho pins s1 σ H1 x v Q I1 r1 q1)
/-! ### ints -/
theorem opI {f : Value → Value → Sem Value} {C : Int → Int → Prop} {g : Int → Int → Int}
    (rule : ∀ (i j : Int) (t u : Tok) (s : Shared) (Q : Value → Shared → Prop) (E : Value → Shared → Prop), C i j → Q (.int (g i j) s.toks) { s with toks := s.toks + 1 } → wpAny (model X.prog X.w) X.A (f (.int i t) (.int j u)) Q E s) :
    OpR X f (rI C fun i j => .int (g i j)) := by
  intro pins s σ H x y v u Q I rx ry h
  obtain ⟨i, j, rfl, rfl, hc, q⟩ := h
  obtain ⟨t, rfl⟩ := rx
  obtain ⟨t', rfl⟩ := ry
  exact rule i j t t' s _ _ hc ⟨.int (g i j), H, I.tok _, ⟨_, rfl⟩, q⟩
theorem opI0 {f : Value → Value → Sem Value} {g : Int → Int → Int}
    (rule : ∀ (i j : Int) (t u : Tok) (s : Shared) (Q : Value → Shared → Prop) (E : Value → Shared → Prop), Q (.int (g i j) s.toks) { s with toks := s.toks + 1 } → wpAny (model X.prog X.w) X.A (f (.int i t) (.int j u)) Q E s) :
    OpR X f (rI0 fun i j => .int (g i j)) := by
  intro pins s σ H x y v u Q I rx ry h
  obtain ⟨i, j, rfl, rfl, q⟩ := h
  obtain ⟨t, rfl⟩ := rx
  obtain ⟨t', rfl⟩ := ry
  exact rule i j t t' s _ _ ⟨.int (g i j), H, I.tok _, ⟨_, rfl⟩, q⟩
theorem opB0 {f : Value → Value → Sem Value} {g : Int → Int → Bool}
    (rule : ∀ (i j : Int) (t u : Tok) (s : Shared) (Q : Value → Shared → Prop) (E : Value → Shared → Prop), Q (.bool (g i j)) s → wpAny (model X.prog X.w) X.A (f (.int i t) (.int j u)) Q E s) :
    OpR X f (rI0 fun i j => .bl (g i j)) := by
  intro pins s σ H x y v u Q I rx ry h
  obtain ⟨i, j, rfl, rfl, q⟩ := h
  obtain ⟨t, rfl⟩ := rx
  obtain ⟨t', rfl⟩ := ry
  exact rule i j t t' s _ _ ⟨.bl (g i j), H, I, rfl, q⟩

def CDiv (i j : Int) : Prop := 0 < j ∧ j < 1073741824
def CPow (i j : Int) : Prop := 0 ≤ j ∧ j ≤ 1000000 ∧ i.natAbs < 2 ^ 64
def CMul (i j : Int) : Prop := (-(2 ^ 64) < i ∧ i < 2 ^ 64) ∨ (-(2 ^ 64) < j ∧ j < 2 ^ 64)
theorem CMul.ok {i j : Int} (h : CMul i j) : IntMulOk i j := by
  rcases h with ⟨h1, h2⟩ | ⟨h1, h2⟩
  · exact .of_left (intBits_le_64 h1 h2)
  · exact .of_right (intBits_le_64 h1 h2)
theorem op_add : OpR X (binaryOp .Add) (rI0 fun i j => .int (i + j)) := opI0 fun _ _ _ _ _ _ _ q => add_int q
theorem op_sub : OpR X (binaryOp .Sub) (rI0 fun i j => .int (i - j)) := opI0 fun _ _ _ _ _ _ _ q => sub_int q
theorem op_mul : OpR X (binaryOp .Mult) (rI CMul fun i j => .int (i * j)) := opI fun _ _ _ _ _ _ _ hc q => mul_int q hc.ok
/-- // by a positive divisor -/
theorem op_fdiv : OpR X (binaryOp .FloorDiv) (rI CDiv fun i j => .int (i / j)) := opI fun i j _ _ _ _ _ hc q => by
  have h1 : (0 : Int) < j := hc.1
  have h2 : j < 1073741824 := hc.2
  exact floordiv_int (by omega) (by rw [Int.fdiv_eq_ediv_of_nonneg i (by omega)]; exact q) (.inl (PyProof.noPylong_small (by omega)))
/-- % by a positive divisor of any size -/
theorem op_mod : OpR X (binaryOp .Mod) (rI (fun _ j => 0 < j) fun i j => .int (i % j)) := opI fun i j _ _ _ _ _ hc q => by
  have h1 : (0 : Int) < j := hc
  exact mod_int' (by omega) (by rw [Int.fmod_eq_emod_of_nonneg i (by omega)]; exact q)
theorem op_pow : OpR X (binaryOp .Pow) (rI CPow fun i j => .int (i ^ j.toNat)) := opI fun _ _ _ _ _ _ _ hc q => pow_int_small hc.1 hc.2.1 hc.2.2 q
theorem unI {f : Value → Sem Value} {g : Int → Int}
    (rule : ∀ (i : Int) (t : Tok) (s : Shared) (Q : Value → Shared → Prop) (E : Value → Shared → Prop), Q (.int (g i) s.toks) { s with toks := s.toks + 1 } → wpAny (model X.prog X.w) X.A (f (.int i t)) Q E s) :
    UnR X f (rU fun i => .int (g i)) := by
  intro pins s σ H x v Q I rx h
  obtain ⟨i, rfl, q⟩ := h
  obtain ⟨t, rfl⟩ := rx
  exact rule i t s _ _ ⟨.int (g i), H, I.tok _, ⟨_, rfl⟩, q⟩
theorem un_neg : UnR X (unaryOp .USub) (rU fun i => .int (-i)) := unI fun _ _ _ _ _ q => neg_int q
/-! ### bools among ints: n += (a < b) -/
end

/-! ### comparisons -/
/-- the scalars that == tells apart as data does -/
def scal : V → V → Bool
  | .non, .non => true | .non, .int _ => true | .int _, .non => true | .non, .bl _ => true | .bl _, .non => true | .non, .str _ => true | .str _, .non => true
  | .int _, .int _ => true | .bl _, .bl _ => true | .str _, .str _ => true | .byt _, .byt _ => true
  | .int _, .str _ => true | .str _, .int _ => true | .bl _, .str _ => true | .str _, .bl _ => true
  | _, _ => false
def rEq : R2 := fun x y H Q => scal x y = true ∧ Q (.bl (decide (x = y))) H
def rNe : R2 := fun x y H Q => scal x y = true ∧ Q (.bl (!decide (x = y))) H

theorem dec_int {i j : Int} : decide (V.int i = V.int j) = (i == j) := by
  rw [Bool.eq_iff_iff]
  simp
theorem dec_bl {i j : Bool} : decide (V.bl i = V.bl j) = (i == j) := by
  rw [Bool.eq_iff_iff]
  simp
theorem dec_str {i j : Str} : decide (V.str i = V.str j) = (i == j) := by
  rw [Bool.eq_iff_iff]
  simp
theorem dec_byt {i j : Array UInt8} : decide (V.byt i = V.byt j) = (i.toList == j.toList) := by
  rw [Bool.eq_iff_iff]
  cases i
  cases j
  simp

section
variable {X : Cx} {a b c : Expr} {ta tb tc : TE} {pos : Pos}
theorem fin_bl {pins : List (Addr × Obj)} {σ : St} {H : Hp} {s : Shared} {Q : VK} {k k' : Bool} (I : Inv X pins σ H s) (q : Q (.bl k) H) (e : k = k') : EP X pins σ Q (.bool k') s := by
  subst e
  exact ⟨.bl k, H, I, rfl, q⟩
theorem op_eq : OpR X (compareOp .Eq) rEq := by
  intro pins s σ H x y v u Q I rx ry h
  obtain ⟨hs, q⟩ := h
  cases x with
  | non =>
    cases rx
    cases y with
    | non => cases ry; exact PySem.EqNone.eq_none_none (fin_bl I q (by simp))
    | bl j => cases ry; exact PySem.EqNone.eq_none_bool (fin_bl I q (by simp))
    | int j => obtain ⟨t', rfl⟩ := ry; exact PySem.EqNone.eq_none_int (fin_bl I q (by simp))
    | str j => obtain ⟨t', rfl⟩ := ry; exact PySem.EqNone.eq_none_str (fin_bl I q (by simp))
    | _ => exact absurd (show false = true from hs) Bool.false_ne_true
  | bl i =>
    cases rx
    cases y with
    | non => cases ry; exact PySem.EqNone.eq_bool_none (fin_bl I q (by simp))
    | bl j => cases ry; exact eq_bool (fin_bl I q dec_bl)
    | str j => obtain ⟨t', rfl⟩ := ry; exact PySem.EqMixed.eq_bool_str (fin_bl I q (by simp))
    | _ => exact absurd (show false = true from hs) Bool.false_ne_true
  | int i =>
    obtain ⟨t, rfl⟩ := rx
    cases y with
    | non => cases ry; exact PySem.EqNone.eq_int_none (fin_bl I q (by simp))
    | int j => obtain ⟨t', rfl⟩ := ry; exact eq_int (fin_bl I q dec_int)
    | str j => obtain ⟨t', rfl⟩ := ry; exact PySem.EqMixed.eq_int_str (fin_bl I q (by simp))
    | _ => exact absurd (show false = true from hs) Bool.false_ne_true
  | str i =>
    obtain ⟨t, rfl⟩ := rx
    cases y with
    | non => cases ry; exact PySem.EqNone.eq_str_none (fin_bl I q (by simp))
    | bl j => cases ry; exact PySem.EqMixed.eq_str_bool (fin_bl I q (by simp))
    | int j => obtain ⟨t', rfl⟩ := ry; exact PySem.EqMixed.eq_str_int (fin_bl I q (by simp))
    | str j => obtain ⟨t', rfl⟩ := ry; exact eq_str (fin_bl I q dec_str)
    | _ => exact absurd (show false = true from hs) Bool.false_ne_true
  | byt i =>
    obtain ⟨t, rfl⟩ := rx
    cases y with
    | byt j => obtain ⟨t', rfl⟩ := ry; exact PySem.W.eq_bytes (fin_bl I q dec_byt)
    | _ => exact absurd (show false = true from hs) Bool.false_ne_true
  | _ => cases y <;> exact absurd (show false = true from hs) Bool.false_ne_true
theorem op_ne : OpR X (compareOp .NotEq) rNe := by
  intro pins s σ H x y v u Q I rx ry h
  obtain ⟨hs, q⟩ := h
  cases x with
  | non =>
    cases rx
    cases y with
    | non => cases ry; exact PySem.EqNone.ne_none_none (fin_bl I q (by simp))
    | bl j => cases ry; exact PySem.EqNone.ne_none_bool (fin_bl I q (by simp))
    | int j => obtain ⟨t', rfl⟩ := ry; exact PySem.EqNone.ne_none_int (fin_bl I q (by simp))
    | str j => obtain ⟨t', rfl⟩ := ry; exact PySem.EqNone.ne_none_str (fin_bl I q (by simp))
    | _ => exact absurd (show false = true from hs) Bool.false_ne_true
  | bl i =>
    cases rx
    cases y with
    | non => cases ry; exact PySem.EqNone.ne_bool_none (fin_bl I q (by simp))
    | bl j => cases ry; exact ne_bool (fin_bl I q (congrArg not dec_bl))
    | str j => obtain ⟨t', rfl⟩ := ry; exact PySem.EqMixed.ne_bool_str (fin_bl I q (by simp))
    | _ => exact absurd (show false = true from hs) Bool.false_ne_true
  | int i =>
    obtain ⟨t, rfl⟩ := rx
    cases y with
    | non => cases ry; exact PySem.EqNone.ne_int_none (fin_bl I q (by simp))
    | int j => obtain ⟨t', rfl⟩ := ry; exact ne_int (fin_bl I q (congrArg not dec_int))
    | str j => obtain ⟨t', rfl⟩ := ry; exact PySem.EqMixed.ne_int_str (fin_bl I q (by simp))
    | _ => exact absurd (show false = true from hs) Bool.false_ne_true
  | str i =>
    obtain ⟨t, rfl⟩ := rx
    cases y with
    | non => cases ry; exact PySem.EqNone.ne_str_none (fin_bl I q (by simp))
    | bl j => cases ry; exact PySem.EqMixed.ne_str_bool (fin_bl I q (by simp))
    | int j => obtain ⟨t', rfl⟩ := ry; exact PySem.EqMixed.ne_str_int (fin_bl I q (by simp))
    | str j => obtain ⟨t', rfl⟩ := ry; exact ne_str (fin_bl I q (congrArg not dec_str))
    | _ => exact absurd (show false = true from hs) Bool.false_ne_true
  | byt i =>
    obtain ⟨t, rfl⟩ := rx
    cases y with
    | byt j => obtain ⟨t', rfl⟩ := ry; exact PySem.W.ne_bytes (fin_bl I q (congrArg not dec_byt))
    | _ => exact absurd (show false = true from hs) Bool.false_ne_true
  | _ => cases y <;> exact absurd (show false = true from hs) Bool.false_ne_true

theorem op_lt : OpR X (compareOp .Lt) (rI0 fun i j => .bl (decide (i < j))) := opB0 fun _ _ _ _ _ _ _ q => lt_int q
theorem op_gt : OpR X (compareOp .Gt) (rI0 fun i j => .bl (decide (j < i))) := opB0 fun _ _ _ _ _ _ _ q => gt_int q
theorem op_ge : OpR X (compareOp .GtE) (rI0 fun i j => .bl (decide (j ≤ i))) := opB0 fun _ _ _ _ _ _ _ q => ge_int q
/-- is None, is not None: the right side a value none -/
theorem op_isN : OpR X (compareOp .Is) (fun x y H Q => y = .non ∧ Q (.bl (decide (x = .non))) H) := by
  intro pins s σ H x y v u Q I rx ry h
  obtain ⟨rfl, q⟩ := h
  cases ry
  refine is_none_gen (fin_bl I q ?_)
  cases x <;> first
    | (cases rx; rfl)
    | (obtain ⟨t, rfl⟩ := rx; rfl)
/-- is, is not of two objects that are tracked lists or instances -/
def isObj : HO → Bool
  | .lst _ => true
  | .ins _ _ _ => true
  | _ => false
theorem nomark (b : Expr) {op : CmpOp} (h : op ≠ .In := by decide) (h2 : op ≠ .NotIn := by decide) : behindInMarks op b = false := by
  have e1 : (op == CmpOp.In) = false := by cases op <;> first | rfl | exact absurd rfl h
  have e2 : (op == CmpOp.NotIn) = false := by cases op <;> first | rfl | exact absurd rfl h2
  cases b <;> simp [behindInMarks, e1, e2]
/-- a comparison as a value; hm: nomark b, or (for in, not in) by with_unfolding_all rfl -/
theorem pe_cmpR {op : CmpOp} {r : R2} (ho : OpR X (compareOp op) r) (ha : PE X a ta) (hb : PE X b tb) (hm : behindInMarks op b = false) : PE X (.Compare a [op] [b] pos) (tOp r ta tb) := by
  intro pins s σ H Q I h
  exact wpAny_Compare1 (binT ha hb I h fun v u s2 x y H2 I2 rx ry q => ho pins s2 σ H2 x y v u Q I2 rx ry q) hm
/-- a reading of a value as a test -/
def tTest (t : TE) : TT := fun σ H Q => t σ H fun x H' => ∃ k, x = .bl k ∧ Q k H'
theorem pt_cmpR {op : CmpOp} {r : R2} (ho : OpR X (compareOp op) r) (ha : PE X a ta) (hb : PE X b tb) (hm : behindInMarks op b = false) : PT X (.Compare a [op] [b] pos) (tTest (tOp r ta tb)) := by
  intro pins s σ H Q I h
  refine wpAny_isTrue_Compare1 (thn (ha pins s σ H _ I h) fun v s1 ⟨x, H1, I1, r1, q1⟩ => thn (hb pins s1 σ H1 _ I1 q1) fun u s2 ⟨y, H2, I2, r2, q2⟩ =>
    thn (ho pins s2 σ H2 x y v u _ I2 r1 r2 q2) fun c s3 ⟨z, H3, I3, r3, k, e, q3⟩ => ?_) hm
  subst e
  cases r3
  exact wpAny_truthy_bool ⟨H3, I3, q3⟩
/-! ### truth -/
theorem line63 : (sizeLine : Nat) < 2 ^ 63 := by rw [sizeLine_eq]; decide
/-! ### strs and bytes -/
/-! ### scalar builtins, by CallR -/
theorem vals1 {x : V} {us : List Value} (r : Vals [x] us) : ∃ u, us = [u] ∧ RelV x u := by
  cases r with
  | cons r1 r2 => cases r2; exact ⟨_, rfl, r1⟩
theorem vals2 {x y : V} {us : List Value} (r : Vals [x, y] us) : ∃ u w', us = [u, w'] ∧ RelV x u ∧ RelV y w' := by
  cases r with
  | cons r1 r2 =>
    cases r2 with
    | cons r3 r4 => cases r4; exact ⟨_, _, rfl, r1, r3⟩
theorem call_abs : CallR X (.builtin "abs") (fun xs H Q => ∃ i, xs = [.int i] ∧ Q (.int (if i < 0 then -i else i)) H) := by
  intro pins s σ H xs us Q I r h
  obtain ⟨i, rfl, q⟩ := h
  obtain ⟨u, rfl, t, rfl⟩ := vals1 r
  exact call_abs_int fun u tk => ⟨.int (if i < 0 then -i else i), H, I.tok _, ⟨_, rfl⟩, q⟩
theorem call_max2 (hc : X.calm = true) : CallR X (.builtin "max") (fun xs H Q => ∃ i j, xs = [.int i, .int j] ∧ Q (.int (if j > i then j else i)) H) := by
  intro pins s σ H xs us Q I r h
  obtain ⟨i, j, rfl, q⟩ := h
  obtain ⟨u, w', rfl, ⟨t, rfl⟩, ⟨t', rfl⟩⟩ := vals2 r
  refine max_two_ints (I.ok.hd hc) fun h' tk k => ⟨_, H, I.kept k, ?_, q⟩
  by_cases hj : j > i
  · rw [if_pos hj, if_pos hj]; exact ⟨_, rfl⟩
  · rw [if_neg hj, if_neg hj]; exact ⟨_, rfl⟩
theorem call_min2 (hc : X.calm = true) : CallR X (.builtin "min") (fun xs H Q => ∃ i j, xs = [.int i, .int j] ∧ Q (.int (if j < i then j else i)) H) := by
  intro pins s σ H xs us Q I r h
  obtain ⟨i, j, rfl, q⟩ := h
  obtain ⟨u, w', rfl, ⟨t, rfl⟩, ⟨t', rfl⟩⟩ := vals2 r
  refine min_two_ints (I.ok.hd hc) fun h' tk k => ⟨_, H, I.kept k, ?_, q⟩
  by_cases hj : j < i
  · rw [if_pos hj, if_pos hj]; exact ⟨_, rfl⟩
  · rw [if_neg hj, if_neg hj]; exact ⟨_, rfl⟩
theorem call_int1 : CallR X (.type "int") (fun xs H Q => (∃ i, xs = [.int i] ∧ Q (.int i) H) ∨ ∃ k, xs = [.bl k] ∧ Q (.int (if k then 1 else 0)) H) := by
  intro pins s σ H xs us Q I r h
  rcases h with ⟨i, rfl, q⟩ | ⟨k, rfl, q⟩
  · obtain ⟨u, rfl, t, rfl⟩ := vals1 r
    exact call_int_int ⟨.int i, H, I, ⟨_, rfl⟩, q⟩
  · obtain ⟨u, rfl, r1⟩ := vals1 r
    cases r1
    exact call_int_bool ⟨.int (if k then 1 else 0), H, I.tok _, ⟨_, rfl⟩, q⟩
end
end L2

namespace L2
open PySem PySem.Spec PyProof.Rows

/-! ### an instance, its attributes a map -/
structure ObjM (h : Heap) (x dx C : Addr) (mA : Str → Option Value) : Prop where
  obj : h.get? x = some (PySem.W.instObj C dx)
  ns : h.Ns1 dx mA
  ne : dx ≠ x

theorem lookIn_ns {h : Heap} {dx : Addr} {mA : Str → Option Value} (n : h.Ns1 dx mA) : ∃ od, h.get? dx = some od ∧ ∀ name, PySem.W.lookIn name od = some (mA name) := by
  obtain ⟨o, es, ep, ho, hd, hk, _, hm⟩ := n
  refine ⟨o, ho, fun name => ?_⟩
  have e := hm name
  unfold nsFind findBy at e
  rw [← Array.find?_toList] at e
  unfold PySem.W.lookIn
  rw [hd]
  dsimp only
  split
  · rename_i y q
    rw [q] at e
    exact congrArg some e
  · rename_i q
    rw [q] at e
    have a : es.toList.any (·.refKey) = false := by
      rw [List.any_eq_false]
      intro y hy
      obtain ⟨z, t, hkey⟩ := hk y (Array.mem_toList_iff.mp hy)
      simp [DictEntry.refKey, hkey]
    have a' : ¬ es.toList.any (·.refKey) = true := by rw [a]; exact Bool.false_ne_true
    rw [if_neg a']
    exact congrArg some e

theorem ObjM.look {h : Heap} {x dx C : Addr} {mA : Str → Option Value} (I : ObjM h x dx C mA) : ∃ od, PySem.W.InstAt h x (PySem.W.instObj C dx) C (some od) ∧ ∀ name, PySem.W.lookIn name od = some (mA name) :=
  let ⟨od, ho, hl⟩ := lookIn_ns I.ns
  ⟨od, ⟨I.obj, rfl, rfl, ho⟩, hl⟩

section
variable {prog : Program} {w : World} {A : Around} {E : Value → Shared → Prop} {s : Shared} {K : PySem.W.Frag} {x dx C f : Addr} {mA : Str → Option Value} {name : Str} {v : Value}

end

/-! ### the attributes as a list of pairs -/
theorem RelO.some_of {v : V} {o : Option Value} (r : RelO (some v) o) : ∃ u, o = some u ∧ RelV v u := by
  cases o with
  | none => exact (show False from r).elim
  | some u => exact ⟨u, rfl, r⟩
section
variable {P : Program} {w : World} {H H' : Hp} {h h' : Heap} {a C dx : Addr} {fs fs' : List (Str × V)}
theorem ins_get (hok : HOk P w H h) (e : H a = some (.ins C dx fs)) : ∃ mA, ObjM h a dx C mA ∧ (∀ f, RelO (fs.lookup f) (mA f)) ∧ PySem.Within mA (fs.map (·.1)) ∧ fs.length ≤ 1000 ∧ H dx = some (.own a) := by
  obtain ⟨d, z, ne, ob, mA, n, r, q⟩ := (show ObjOk P w H h a (.ins C dx fs) from hok a _ e)
  exact ⟨mA, ⟨ob, n, ne⟩, r, q, z, d⟩
end

/-! ### what of the text a class must have -/
structure Cls (K : PySem.W.Frag) (C : Addr) : Prop where
  pg : PySem.W.plainGet K C Str.empty = true
  hd : PySem.W.hasDictIn K C = true
  po : PySem.W.plainOver K C = true
  sa : PySem.W.findIn K (.ref C) "__setattr__" = some (some (.builtin "object.__setattr__"))
theorem Cls.get {K : PySem.W.Frag} {C : Addr} (c : Cls K C) (f : Str) : PySem.W.plainGet K C f = true := c.pg
section
variable {X : Cx} {pins : List (Addr × Obj)} {σ : St} {H : Hp} {s : Shared} {a C dx : Addr} {fs : List (Str × V)} {f : Str} {v : V} {A : Around} {E : Value → Shared → Prop}

end

/-! ### readings and rules -/
section
variable {X : Cx} {o e value : Expr} {f : Str} {pos pos' tpos : Pos} {ta tv : TE}
end

/-! ### isinstance -/
section
variable {X : Cx} {pins : List (Addr × Obj)} {σ : St} {H : Hp} {s : Shared} {A : Around} {E : Value → Shared → Prop} {Q : Value → Shared → Prop} {c : Value} {b : Bool}
/-- the type of a value, as the fragment's deciders take it; for an instance its class -/
inductive TyOf (K : PySem.W.Frag) (H : Hp) : V → Value → Prop where
  | non : TyOf K H .non (.type "NoneType")
  | bl (x : Bool) : TyOf K H (.bl x) (.type "bool")
  | int (i : Int) : TyOf K H (.int i) (.type "int")
  | str (x : Str) : TyOf K H (.str x) (.type "str")
  | flt (x : UInt64) : TyOf K H (.flt x) (.type "float")
  | lst {a : Addr} {xs : List V} (e : H a = some (.lst xs)) : TyOf K H (.ref a) (.type "list")
  | frz {a : Addr} {o : Obj} {xs : List V} (e : H a = some (.frz o (.lst xs))) : TyOf K H (.ref a) (.type "list")
  | tup {a : Addr} {xs : List V} (e : H a = some (.tup xs)) : TyOf K H (.ref a) (.type "tuple")
  | dK {a : Addr} {kvs : List (Key × V)} (e : H a = some (.dK kvs)) : TyOf K H (.ref a) (.type "dict")
  | dT {a : Addr} {kvs : List (List Key × V)} (e : H a = some (.dT kvs)) : TyOf K H (.ref a) (.type "dict")
  | ins {a C dx : Addr} {fs : List (Str × V)} (e : H a = some (.ins C dx fs)) (cl : Cls K C) (ha : PySem.W.findIn K (.ref C) "__class__" = some (some (.builtin "object.__class__")))
      (hn : PySem.W.specialIn K (.builtin "object.__class__") "__get__" = some (some (.builtin "getset_descriptor.__get__"))) (htk : PySem.W.takesIn K (.builtin "object.__class__") = some true)
      (hm : PySem.W.mroIn K C (.type "object") = some true) : TyOf K H (.ref a) (.ref C)
/-- isinstance(x, c) for one class c, a built-in or an own one: kitOne's answer -/
theorem isinst_ok {x : V} {u t : Value} (I : Inv X pins σ H s) (rx : RelV x u) (ty : TyOf X.K H x t) (e : PySem.W.kitOne X.K t c = some b) (h : ∀ tk, Q (.bool b) { s with toks := tk }) :
    wpAny (model X.prog X.w) A (call (.builtin "isinstance") [u, c]) Q E s := by
  cases ty with
  | non => cases (show u = Value.none from rx); exact PySem.W.kia_one PySem.W.kitx_none I.kIn True.intro e (fun z => nomatch z) h
  | bl y => cases (show u = Value.bool y from rx); exact PySem.W.kia_one PySem.W.kitx_bool I.kIn True.intro e (fun z => nomatch z) h
  | int i => obtain ⟨t, q⟩ := (show ∃ t, u = Value.int i t from rx); cases q; exact PySem.W.kia_one PySem.W.kitx_int I.kIn True.intro e (fun z => nomatch z) h
  | str y => obtain ⟨t, q⟩ := (show ∃ t, u = Value.str y t from rx); cases q; exact PySem.W.kia_one PySem.W.kitx_str I.kIn True.intro e (fun z => nomatch z) h
  | flt y => obtain ⟨t, q⟩ := (show ∃ t, u = Value.float y t from rx); cases q; exact PySem.W.kia_one PySem.W.kitx_float I.kIn True.intro e (fun z => nomatch z) h
  | @lst a xs ea =>
    cases (show u = Value.ref a from rx)
    obtain ⟨_, _, n, _, h1⟩ := (show ObjOk X.prog X.w H s.heap a (.lst xs) from I.hok a _ ea)
    exact PySem.W.kia_one PySem.W.kitx_list I.kIn ⟨_, h1, rfl⟩ e (fun z => nomatch z) h
  | @frz a ob xs ea =>
    cases (show u = Value.ref a from rx)
    obtain ⟨_, _, _, n, _, h1⟩ := (show ObjOk X.prog X.w H s.heap a (.frz ob (.lst xs)) from I.hok a _ ea)
    exact PySem.W.kia_one PySem.W.kitx_list I.kIn ⟨_, h1, rfl⟩ e (fun z => nomatch z) h
  | @tup a xs ea =>
    cases (show u = Value.ref a from rx)
    obtain ⟨_, _, _, p⟩ := (show ObjOk X.prog X.w H s.heap a (.tup xs) from I.hok a _ ea)
    obtain ⟨o, h1, h2, _⟩ := p
    exact PySem.W.kia_one PySem.W.kitx_tuple I.kIn ⟨o, h1, h2⟩ e (fun z => nomatch z) h
  | @dK a kvs ea =>
    cases (show u = Value.ref a from rx)
    obtain ⟨_, _, vs, _, p⟩ := (show ObjOk X.prog X.w H s.heap a (.dK kvs) from I.hok a _ ea)
    obtain ⟨o, es, ep, h1, h2, _⟩ := p
    exact PySem.W.kia_one PySem.W.kitx_dict I.kIn ⟨o, h1, h2.1⟩ e (fun z => nomatch z) h
  | @dT a kvs ea =>
    cases (show u = Value.ref a from rx)
    obtain ⟨_, _, xs, _, o, es, ep, h1, h2, _⟩ := (show ObjOk X.prog X.w H s.heap a (.dT kvs) from I.hok a _ ea)
    exact PySem.W.kia_one PySem.W.kitx_dict I.kIn ⟨o, h1, h2.1⟩ e (fun z => nomatch z) h
  | @ins a C dx fs ea cl ha hn htk hm =>
    cases (show u = Value.ref a from rx)
    obtain ⟨mA, O, _⟩ := ins_get I.hok ea
    obtain ⟨od, J, _⟩ := O.look
    exact PySem.W.kia_one (PySem.W.kitx_own (cl.get _) cl.hd ha hn htk hm) I.kIn J e (fun z => nomatch z) h
end
end L2

namespace L2
open PySem PySem.Spec PyProof.Rows

/-! ### room -/
structure Room (k : Nat) (A : Around) : Prop where
  hd : A.handled = none
  dp : A.depth + 3 * k + 5 < recursionLimit
  un : A.units + 16 * k + 200 < cLine
theorem Room.mono {j k : Nat} {A : Around} (r : Room k A) (h : j ≤ k) : Room j A := ⟨r.hd, by have := r.dp; omega, by have := r.un; omega⟩
theorem Room.deeper {k : Nat} {A : Around} (r : Room (k + 1) A) (env : Env) : Room k (A.deeper env) :=
  ⟨r.hd, by have := r.dp; show A.depth + 1 + 3 * k + 5 < _; omega, by have := r.un; show A.units + 3 + 16 * k + 200 < _; omega⟩
theorem Room.in1 {k : Nat} {A : Around} (r : Room (k + 1) A) : Room k A.in1 :=
  ⟨r.hd, by have := r.dp; show A.depth + 3 * k + 5 < _; omega, by have := r.un; show A.units + 1 + 16 * k + 200 < _; omega⟩
theorem Room.depth {k : Nat} {A : Around} (r : Room k A) : A.depth < recursionLimit := by have := r.dp; omega
theorem Room.units {k : Nat} {A : Around} (r : Room k A) : A.units + 64 < cLine := by have := r.un; omega
/-! ### argument lists and displays -/
def tNil : TA := fun _ H Q => Q [] H
def tCons (ta : TE) (tr : TA) : TA := fun σ H Q => ta σ H fun x H1 => tr σ H1 fun xs H2 => Q (x :: xs) H2
section
variable {X : Cx} {e : Expr} {es : List Expr} {te : TE} {t : TA} {pos : Pos}
theorem pa_nil : PA X [] tNil := fun _ _ _ _ H Q I h => Calls.spliced_nil ⟨[], H, I, .nil, h⟩
theorem pa_cons (ha : PE X e te) (hr : PA X es t) (hs : starEach (e :: es) X.env = (false, eval e X.env) :: starEach es X.env := by rfl) : PA X (e :: es) (tCons te t) := by
  intro pos pins s σ H Q I h
  rw [hs]
  show wpAny _ _ (spliced ((false, eval e X.env) :: backTo pos (starEach es X.env))) _ _ s
  refine Calls.spliced_cons (thn (ha pins s σ H _ I h) fun u s1 ⟨x, H1, I1, r1, q1⟩ => ?_)
  exact thn (hr pos pins s1 σ H1 _ I1 q1) fun us s2 ⟨xs, H2, I2, r2, q2⟩ => ⟨x :: xs, H2, I2, .cons r1 r2, q2⟩

/-- a tuple, a list of written items -/
def tTup (t : TA) : TE := fun σ H Q => t σ H fun xs H1 => xs.length ≤ sizeLine ∧ ∀ p, H1 p = none → Q (.ref p) (upd H1 p (.tup xs))
def tLst (t : TA) : TE := fun σ H Q => t σ H fun xs H1 => xs.length ≤ sizeLine ∧ ∀ p, H1 p = none → Q (.ref p) (upd H1 p (.lst xs))
theorem pe_tup {x1} (h : PA X es t) : PE X (.Tuple es x1 pos) (tTup t) := by
  intro pins s σ H Q I hq
  refine wpAny_Tuple_spliced (thn (h pos pins s σ H _ I hq) fun us s1 ⟨xs, H1, I1, r, z, q⟩ => ⟨by rw [← r.length]; exact z, ?_⟩)
  have hf : H1 s1.heap.objs.size = none := I1.hok.fresh (Nat.le_refl _)
  refine ⟨.ref s1.heap.objs.size, upd H1 s1.heap.objs.size (.tup xs), I1.laid (t' := s1.toks) (fun b u e => Heap.get?_push_of_some _ e) (Nat.le_refl _) ?_, rfl, q _ hf⟩
  exact ⟨z, us, r, ⟨_, Heap.get?_push_size _ rfl, rfl, _, rfl⟩⟩
theorem pe_lst (h : PA X es t) : PE X (.List es pos) (tLst t) := by
  intro pins s σ H Q I hq
  refine wpAny_List_spliced (thn (h pos pins s σ H _ I hq) fun us s1 ⟨xs, H1, I1, r, z, q⟩ => ⟨by rw [← r.length]; exact z, ?_⟩)
  have hf : H1 s1.heap.objs.size = none := I1.hok.fresh (Nat.le_refl _)
  refine ⟨.ref s1.heap.objs.size, upd H1 s1.heap.objs.size (.lst xs), I1.laid (t' := s1.toks) (fun b u e => Heap.get?_push_of_some _ e) (Nat.le_refl _) ?_, rfl, q _ hf⟩
  exact ⟨z, us, 0, r, Heap.get?_push_size _ rfl⟩
end

/-! ### what a def promises -/
/-- a def's promise: the bound arguments in the parameters' order, the heap, the wanted end, the wanted exception -/
abbrev Sp := List V → Hp → VK → XK → Prop
/-- how an exception lies behind a call (file 08 gives it): the callers' frames, abstract heap and state ahead of the call, the wish, the exception, the state -/
abbrev CXT := List Env → Hp → Shared → XK → Value → Shared → Prop

/-- the state at a call -/
structure Env0 (P : Program) (w : World) (K : PySem.W.Frag) (mg : Str → Option Value) (base : Heap) (A : Around) (outer : List Env) (s : Shared) (H : Hp) : Prop where
  frames : A.frames = some outer
  mod : Mod K mg base
  bs : ∀ b o, base.get? b = some o → s.heap.get? b = some o ∧ H b = none
  bsz : base.objs.size ≤ s.heap.objs.size
  funs : s.heap.FunFrames base outer
  frf : ∀ b ∈ frs outer, H b = none
  hok : HOk P w H s.heap
  bare : AllBare s.gens
/-- a call's end -/
def CE (outer : List Env) (P : Program) (w : World) (H : Hp) (s : Shared) (Q : VK) (u : Value) (s' : Shared) : Prop :=
  ∃ v H', s'.os = s.os ∧ AllBare s'.gens ∧ Un (frs outer) [] H H' s.heap s'.heap ∧ HOk P w H' s'.heap ∧ RelV v u ∧ Q v H'
def CR (CX : CXT) (outer : List Env) (P : Program) (w : World) (H : Hp) (s : Shared) (Q : VK) (E : XK) (r : Result) (s' : Shared) : Prop :=
  match r with
  | .ok (.ret u) => CE outer P w H s Q u s'
  | .ok _ => False
  | .error e => CX outer H s E e s'
structure FnOk (P : Program) (w : World) (K : PySem.W.Frag) (mg : Str → Option Value) (base : Heap) (CX : CXT) (k : Nat) (f : Addr) (fd : FuncData) (ps : List Str) (sp : Sp) : Prop where
  len : ∀ vs H Q E, sp vs H Q E → vs.length = ps.length
  run : ∀ (A : Around) (outer : List Env) (s : Shared) (H : Hp) (args : Args) (us : List Value) (vs : List V) (Q : VK) (E : XK), Room k A → Env0 P w K mg base A outer s H → BindsTo s fd args (ps.zip us) → Vals vs us → sp vs H Q E →
    codeAny (model P w) A (.call (.ref f) args) (CR CX outer P w H s Q E) s
theorem Env0.in1 {P : Program} {w : World} {K : PySem.W.Frag} {mg : Str → Option Value} {base : Heap} {A : Around} {outer : List Env} {s : Shared} {H : Hp} (e : Env0 P w K mg base A outer s H) :
    Env0 P w K mg base A.in1 outer s H := ⟨e.frames, e.mod, e.bs, e.bsz, e.funs, e.frf, e.hok, e.bare⟩

section
variable {X : Cx} {pins : List (Addr × Obj)} {σ : St} {H : Hp} {s s' : Shared}
/-- from a body: what a callee wants -/
theorem Inv.env0 (I : Inv X pins σ H s) : Env0 X.prog X.w X.K X.mg X.base X.A X.stack s H :=
  ⟨I.ok.frames, I.ok.mod, I.bs, Nat.le_trans I.ok.bsz I.sz, I.stack, I.stkFree, I.hok, I.bare⟩
/-- behind a call -/
theorem Inv.after {Q : VK} {u : Value} (I : Inv X pins σ H s) (h : CE X.stack X.prog X.w H s Q u s') : EP X pins σ Q u s' := by
  obtain ⟨v, H', os, bare, un, hok, r, q⟩ := h
  obtain ⟨hh, g, d, t, os'⟩ := s'
  obtain rfl : os' = s.os := os
  exact ⟨v, H', I.call (h' := hh) (g' := g) (d' := d) (t' := t) (ch := []) un hok bare (fun b z => absurd z (by simp)), r, q⟩
end

/-! ### calls -/
/-- f(..): the written arguments, then the defaults dvs; E: what is wanted of an exception -/
def tCall (sp : Sp) (dvs : List V) (E : XK) (t : TA) : TE := fun σ H Q => t σ H fun vs H1 => sp (vs ++ dvs) H1 Q E
/-- how the parameters are bound: us the positional arguments, kw the keywords' values by name, ds the defaults that fill up -/
def Binds (K : PySem.W.Frag) (fd : FuncData) (ps : List Str) (ds : List Value) : Prop :=
  ∀ (s : Shared) (us : List Value), K.In s.heap → (us ++ ds).length = ps.length → BindsTo s fd ⟨us, []⟩ (ps.zip (us ++ ds))
/-- every parameter is given -/
theorem Binds.all {K : PySem.W.Frag} {fd : FuncData} {ps : List Str} (h : ∀ us : List Value, us.length = ps.length → bindArgs fd ⟨us, []⟩ = pure (ps.zip us)) : Binds K fd ps [] := fun s us _ hl => by
  rw [List.append_nil] at hl ⊢
  exact .of_eq (h us hl)

/-- an exception of a callee reaches what this body wants of exceptions -/
def Passes (CX : CXT) (X : Cx) (E : XK) : Prop := ∀ (pins : List (Addr × Obj)) (σ : St) (H : Hp) (s : Shared) (e : Value) (s' : Shared), Inv X pins σ H s → CX X.stack H s E e s' → X.xe e s'

section
variable {X : Cx} {CX : CXT} {k : Nat} {f C : Addr} {fd : FuncData} {ps : List Str} {sp : Sp} {dvs : List V} {ds : List Value} {E : XK} {x m : Str} {p pos apos : Pos} {e o : Expr} {es : List Expr} {ta : TE} {t : TA}

/-- the callee runs -/
theorem run_fn {pins : List (Addr × Obj)} {σ : St} {H : Hp} {s : Shared} {Q : VK} {us : List Value} {vs : List V} (F : FnOk X.prog X.w X.K X.mg X.base CX k f fd ps sp) (hr : Room k X.A) (hb : Binds X.K fd ps ds) (hd : Vals dvs ds) (hx : Passes CX X E)
    (I : Inv X pins σ H s) (r : Vals vs us) (h : sp (vs ++ dvs) H Q E) : wpAny (model X.prog X.w) X.A (call (.ref f) us) (EP X pins σ Q) X.xe s := by
  have r2 : Vals (vs ++ dvs) (us ++ ds) := r.append hd
  have hl : (us ++ ds).length = ps.length := by rw [← r2.length]; exact F.len _ _ _ _ h
  refine wpAny_call (codeAny_mono (F.run X.A X.stack s H ⟨us, []⟩ (us ++ ds) (vs ++ dvs) Q E hr I.env0 (hb s us I.kIn hl) r2 h) fun r s' hq => ?_)
  cases r with
  | error e => exact hx pins σ H s e s' I hq
  | ok fl =>
    cases fl with
    | ret u => exact I.after hq
    | next => exact False.elim hq
    | brk => exact False.elim hq
    | cont => exact False.elim hq

theorem pe_call (F : FnOk X.prog X.w X.K X.mg X.base CX k f fd ps sp) (hr : Room k X.A) (hg : Gl X x) (hm : X.mg x = some (.ref f)) (hk : PySem.W.keepIn X.K (.ref f) = true) (hb : Binds X.K fd ps ds) (hd : Vals dvs ds) (hx : Passes CX X E)
    (ha : PA X (e :: es) t) (hdb : (x == ("__debug__" : Str)) = false := by decide) (he : starEach (e :: es) X.env = (false, eval e X.env) :: starEach es X.env := by rfl) (hpl : (backTo pos (starEach es X.env)).any (·.1) = false := by rfl) :
    PE X (.Call (.Name x p) (e :: es) [] pos) (tCall sp dvs E t) := by
  intro pins s σ H Q I h
  refine wpAny_Call_Name_kw (ld_glob I hg hm ?_ hdb)
  refine PySem.W.callWith_K (h₀ := X.base) I.ok.mod.kin hk (thn (ha pos pins s σ H _ I h) fun us s1 ⟨vs, H1, I1, r, q⟩ => ⟨I1.kIn, ?_⟩) he hpl
  exact run_fn F hr hb hd hx I1 r q
end

/-! ### keywords -/
section
variable {X : Cx} {CX : CXT} {k : Nat} {f C : Addr} {fd : FuncData} {ps ks : List Str} {sp : Sp} {E : XK} {x m : Str} {p pos apos kpos : Pos} {e o : Expr} {es : List Expr} {kws : List Keyword} {te ta : TE} {t tk : TA} {nm : Option Str}
variable {g : List Value → List Value → List Value} {gV : List V → List V → List V}
end

/-! ### a def's body keeps its promise -/
/-- names: the parameters first -/
structure FnScope (N P : List Str) (sc : Scope) : Prop where
  kind : sc.kind = .function
  co : sc.isCoroutine = false
  gen : sc.isGenerator = false
  nd : N.Nodup
  pre : N.take P.length = P
  par : ∀ x ∈ P, sc.names.lookup x = some .local ∨ sc.names.lookup x = some .cell
  nofree : ∀ y ∈ sc.names, y.2 ≠ .free

theorem bindL_out {kindOf : Str → Option NameKind} {x : Str} : ∀ {binds : List (Str × Value)} {m : Str → Option Value}, (∀ v, (x, v) ∉ binds) → bindL kindOf binds m x = m x
  | [], _, _ => rfl
  | (n, v) :: r, m, h => by
    unfold bindL
    rw [bindL_out fun w hw => h w (List.mem_cons_of_mem _ hw)]
    split
    · have : x ≠ n := by rintro rfl; exact h v List.mem_cons_self
      simp [this]
    · rfl
theorem bindC_out {kindOf : Str → Option NameKind} {x : Str} : ∀ {binds : List (Str × Value)} {m : Str → Option Value}, (∀ v, (x, v) ∉ binds) → bindC kindOf binds m x = m x
  | [], _, _ => rfl
  | (n, v) :: r, m, h => by
    unfold bindC
    rw [bindC_out fun w hw => h w (List.mem_cons_of_mem _ hw)]
    split
    · rfl
    · have : x ≠ n := by rintro rfl; exact h v List.mem_cons_self
      simp [this]
theorem bindL_get {kindOf : Str → Option NameKind} {x : Str} {v : Value} : ∀ {P : List Str} {vs : List Value} {i : Nat} {m : Str → Option Value}, P.Nodup → P[i]? = some x → vs[i]? = some v → kindOf x = some .local →
    bindL kindOf (P.zip vs) m x = some v
  | [], _, _, _, _, h, _, _ => by simp at h
  | _ :: _, [], _, _, _, _, h, _ => by simp at h
  | p :: P, w :: vs, 0, m, nd, h1, h2, hk => by
    simp at h1 h2; subst h1; subst h2
    show bindL kindOf ((p, w) :: P.zip vs) m p = _
    unfold bindL
    rw [bindL_out fun v hv => (List.nodup_cons.mp nd).1 (List.of_mem_zip hv).1, if_pos hk]
    simp
  | p :: P, w :: vs, i + 1, m, nd, h1, h2, hk => by
    show bindL kindOf ((p, w) :: P.zip vs) m x = _
    unfold bindL
    exact bindL_get (i := i) (List.nodup_cons.mp nd).2 (by simpa using h1) (by simpa using h2) hk
theorem bindC_get {kindOf : Str → Option NameKind} {x : Str} {v : Value} : ∀ {P : List Str} {vs : List Value} {i : Nat} {m : Str → Option Value}, P.Nodup → P[i]? = some x → vs[i]? = some v → kindOf x ≠ some .local →
    bindC kindOf (P.zip vs) m x = some v
  | [], _, _, _, _, h, _, _ => by simp at h
  | _ :: _, [], _, _, _, _, h, _ => by simp at h
  | p :: P, w :: vs, 0, m, nd, h1, h2, hk => by
    simp at h1 h2; subst h1; subst h2
    show bindC kindOf ((p, w) :: P.zip vs) m p = _
    unfold bindC
    rw [bindC_out fun v hv => (List.nodup_cons.mp nd).1 (List.of_mem_zip hv).1, if_neg hk]
    simp
  | p :: P, w :: vs, i + 1, m, nd, h1, h2, hk => by
    show bindC kindOf ((p, w) :: P.zip vs) m x = _
    unfold bindC
    exact bindC_get (i := i) (List.nodup_cons.mp nd).2 (by simpa using h1) (by simpa using h2) hk

/-- the names' values at the entry -/
def start (N : List Str) (vs : List V) : St := vs.map some ++ List.replicate (N.length - vs.length) none

/-- the context of a def's body, at its entry; an exception leaves the frame, then lies as CX says -/
def cxOf (CX : CXT) (P : Program) (w : World) (K : PySem.W.Frag) (mg : Str → Option Value) (base : Heap) (N : List Str) (qual : Str) (scope : Scope) (f : Addr) (cd : Value) (A : Around) (outer : List Env) (s : Shared) (H : Hp) (E : XK) : Cx where
  prog := P
  w := w
  K := K
  mg := mg
  base := base
  A := A.deeper (envOfC qual scope s.heap.objs.size f cd)
  N := N
  s₀ := s
  H₀ := H
  env := envOfC qual scope s.heap.objs.size f cd
  outer := outer
  stack := envOfC qual scope s.heap.objs.size f cd :: outer
  ex := []
  calm := true
  fn := fun _ => true
  pn := []
  xe := fun e s' => wpAny (model P w) (A.deeper (envOfC qual scope s.heap.objs.size f cd)) (leaving (envOfC qual scope s.heap.objs.size f cd) e) (fun _ s'' => CX outer H s E e s'') (fun e' s'' => CX outer H s E e' s'') s'

theorem cell_has {sc : Scope} {n : Nat} {x : Str} (h : sc.names.lookup x = some .cell) : ∃ c, (cellsFrom n sc.names []).lookup x = some c := by
  have q := PySem.W.cellsFrom_some sc.names n [] (.inl h)
  exact Option.isSome_iff_exists.mp q

theorem inv_start {CX : CXT} {P : Program} {w : World} {K : PySem.W.Frag} {mg : Str → Option Value} {base : Heap} {N ps : List Str} {qual : Str} {scope : Scope} {f : Addr} {cd : Value} {A : Around} {outer : List Env} {s s1 : Shared} {H : Hp} {E : XK} {us : List Value} {vs : List V}
    (S : FnScope N ps scope) (hd : A.handled = none) (e0 : Env0 P w K mg base A outer s H) (hl : vs.length = ps.length) (r : Vals vs us)
    (x : InCallC s s.heap.objs.size (bindL (envOfC qual scope s.heap.objs.size f cd).kindOf (ps.zip us) fun _ => none) (cellsFrom (s.heap.objs.size + 1) scope.names []) (bindC (envOfC qual scope s.heap.objs.size f cd).kindOf (ps.zip us) fun _ => none) s1) :
    Inv (cxOf CX P w K mg base N qual scope f cd A outer s H E) [] (start N vs) H s1 := by
  have hpl : ps.length ≤ N.length := by have := congrArg List.length S.pre; rw [List.length_take] at this; omega
  obtain ⟨h1, tk, rfl, hk⟩ := x.done
  have noA : ∀ b : Addr, b ∉ (cxOf CX P w K mg base N qual scope f cd A outer s H E).ex := fun b z => absurd (show b ∈ ([] : List Addr) from z) (by simp)
  refine ⟨⟨e0.mod, S.kind, rfl, rfl, Nat.le_refl _, fun y z c h1 h2 => ?_, fun y hy => ?_, fun y c _ h => ?_, fun _ => hd, Around.frames_deeper e0.frames, .inr ⟨rfl, rfl⟩, fun b z => absurd z (noA b), e0.bs, e0.bsz, fun b _ _ => noA b, fun b z => absurd z (noA b), e0.funs, e0.frf⟩,
    rfl, e0.bare, Un.kept hk, ⟨_, x.toInCall.ns, fun i y v h1 h2 h3 => ?_⟩, fun y c h => ⟨_, x.cell y c h⟩, e0.hok.fresh (Nat.le_refl _), fun y c h => ?_, fun p hp => absurd (show p ∈ ([] : List (Addr × Obj)) from hp) (by simp), e0.hok.kept hk, ?_⟩
  · exact name_of_addr x.apart (PySem.mem_of_lookup h1) (PySem.mem_of_lookup h2)
  · have hy : scope.names.lookup y = some .cell ∨ scope.names.lookup y = some .free := hy
    rcases hy with hy | hy
    · exact cell_has hy
    · exact absurd rfl (S.nofree _ (PySem.mem_of_lookup hy))
  · exact Nat.le_of_lt (x.above y c (PySem.mem_of_lookup h))
  · have hi : i < vs.length := by
      unfold start at h2
      by_cases hi : i < vs.length
      · exact hi
      · rw [List.getElem?_append_right (by simpa using hi)] at h2
        rw [List.getElem?_replicate] at h2
        split at h2 <;> cases h2
    have ha : vs[i]? = some v := by
      unfold start at h2
      rw [List.getElem?_append_left (by simpa using hi), List.getElem?_map] at h2
      cases e : vs[i]? with
      | none => rw [e] at h2; cases h2
      | some a => rw [e] at h2; cases h2; rfl
    obtain ⟨u, hu, rv⟩ := r.get ha
    have hp : ps[i]? = some y := by
      rw [← S.pre, List.getElem?_take_of_lt (by omega)]; exact h1
    have ndP : ps.Nodup := by rw [← S.pre]; exact S.nd.sublist (List.take_sublist _ _)
    refine ⟨u, rv, ?_⟩
    rcases S.par y (List.mem_of_getElem? hp) with k | k
    · exact .inl ⟨k, bindL_get ndP hp hu k⟩
    · obtain ⟨c, e⟩ := cell_has (n := s.heap.objs.size + 1) k
      refine .inr ⟨.inl k, c, e, ?_⟩
      have q := x.cell y c e
      rw [bindC_get ndP hp hu (by show scope.names.lookup y ≠ _; rw [k]; decide)] at q
      exact q
  · exact e0.hok.fresh (Nat.le_of_lt (x.above y c (PySem.mem_of_lookup h)))
  · unfold start
    show _ = N.length
    rw [List.length_append, List.length_map, List.length_replicate]
    omega

/-- THE RULE: a def (or a method) of the text, by its body. The body's reading t is chosen for each entry; it is run at the parameters' values -/
theorem fn_of {CX : CXT} {P : Program} {w : World} {K : PySem.W.Frag} {mg : Str → Option Value} {base : Heap} {k : Nat} {f : Addr} {name qual : Str} {params : Arguments} {body : List Stmt} {scope : Scope} {dV kV doc pm cdv ct oc : Value} {an od : Option Addr}
    {osl : Array (Option Value)} {N ps : List Str} {sp : Sp} (lk : K.lookup f = some ⟨oc, od, .func (PySem.W.fnOf name qual params body scope dV kV doc pm an cdv ct), osl⟩) (hcd : PySem.W.codeIn K cdv qual = true) (S : FnScope N ps scope)
    (len : ∀ vs H Q E, sp vs H Q E → vs.length = ps.length)
    (hbody : ∀ (A : Around) (outer : List Env) (s : Shared) (H : Hp) (vs : List V) (Q : VK) (E : XK), Room k (A.deeper (envOfC qual scope s.heap.objs.size f cdv)) → sp vs H Q E →
      ∃ t, PSs (cxOf CX P w K mg base N qual scope f cdv A outer s H E) body t ∧ t { nx := fun _ H' => Q .non H', rt := Q } (start N vs) H) :
    FnOk P w K mg base CX (k + 1) f (PySem.W.fnOf name qual params body scope dV kV doc pm an cdv ct) ps sp := by
  refine ⟨len, fun A outer s H args us vs Q E hr e0 hb r hsp => ?_⟩
  have hl := len _ _ _ _ hsp
  have KX : K.In s.heap := e0.mod.kin.keeps fun b o e => (e0.bs b o e).1
  have lim : s.heap.NoLimit := e0.mod.nolimit.keeps fun b o e => (e0.bs b o e).1
  have hkind : ∀ y ∈ ps.zip us, scope.names.lookup y.1 = some .local ∨ (scope.names.lookup y.1 = some .cell ∧ ((cellsFrom (s.heap.objs.size + 1) scope.names []).lookup y.1).isSome = true) := fun ⟨n, v⟩ hy => by
    rcases S.par n (List.of_mem_zip hy).1 with q | q
    · exact .inl q
    · exact .inr ⟨q, PySem.W.cellsFrom_some _ _ _ (.inl q)⟩
  refine codeAny_call_function hr.depth (KX _ _ lk) rfl S.co S.gen rfl (PySem.W.codeRec_of KX hcd) (hb _ _ _ _ ?_)
  refine wpAny_newFunctionEnv_cells S.kind hkind fun env he s1 x => ?_
  subst he
  refine ⟨lim.keeps x.toInCall.keep, codeAny_func ?_⟩
  obtain ⟨t, ht, hq⟩ := hbody A outer s H vs Q E (hr.deeper _) hsp
  have I : Inv (cxOf CX P w K mg base N qual scope f cdv A outer s H E) [] (start N vs) H s1 := inv_start S hr.hd e0 hl r x
  refine wpAny_mono (ht [] s1 (start N vs) H _ I hq) (fun fl s' hs => ?_) fun e s' hs => hs
  have fin : ∀ {σ' : St} {H' : Hp} {v : V} {u : Value}, Inv (cxOf CX P w K mg base N qual scope f cdv A outer s H E) [] σ' H' s' → RelV v u → Q v H' → CE outer P w H s Q u s' :=
    fun {σ' H' v u} J rv q => ⟨v, H', J.os, J.bare, J.base, J.hok, rv, q⟩
  cases fl with
  | ret u =>
    obtain ⟨v, σ', H', J, rv, q⟩ := hs
    exact fin J rv q
  | next =>
    obtain ⟨σ', H', J, q⟩ := hs
    exact fin (v := V.non) (u := Value.none) J rfl q
  | brk =>
    obtain ⟨_, _, _, q⟩ := hs
    exact False.elim q
  | cont =>
    obtain ⟨_, _, _, q⟩ := hs
    exact False.elim q
end L2

namespace L2
open PySem PySem.Spec PyProof.Rows
section
variable {X : Cx} {x : Str} {p pos : Pos} {e : Expr} {es : List Expr} {t : TA} {id T : String} {r : List V → Hp → VK → Prop}

def tCB (r : List V → Hp → VK → Prop) (t : TA) : TE := fun σ H Q => t σ H fun vs H1 => r vs H1 Q
/-- f(e, ..), f a built-in function -/
theorem pe_callB (hc : CallR X (.builtin id) r) (hg : Gl X x) (hm : X.mg x = none) (hv : bootBuiltins x = some (.builtin id)) (ha : PA X (e :: es) t) (hn : x ≠ "__name__" := by decide) (hdb : (x == ("__debug__" : Str)) = false := by decide)
    (he : starEach (e :: es) X.env = (false, eval e X.env) :: starEach es X.env := by rfl) (hpl : (backTo pos (starEach es X.env)).any (·.1) = false := by rfl) : PE X (.Call (.Name x p) (e :: es) [] pos) (tCB r t) := by
  intro pins s σ H Q I h
  refine wpAny_Call_Name_kw (ld_blt I hg hm hv ?_ hn hdb)
  exact PyProof.Rows.callWith_builtin1 (thn (ha pos pins s σ H _ I h) fun us s1 ⟨vs, H1, I1, r1, q1⟩ => hc pins s1 σ H1 vs us Q I1 r1 q1) he hpl
/-- T(e, ..), T a built-in type -/
theorem pe_callTy (hc : CallR X (.type T) r) (hg : Gl X x) (hm : X.mg x = none) (hv : bootBuiltins x = some (.type T)) (ha : PA X (e :: es) t) (hn : x ≠ "__name__" := by decide) (hdb : (x == ("__debug__" : Str)) = false := by decide)
    (he : starEach (e :: es) X.env = (false, eval e X.env) :: starEach es X.env := by rfl) (hpl : (backTo pos (starEach es X.env)).any (·.1) = false := by rfl) : PE X (.Call (.Name x p) (e :: es) [] pos) (tCB r t) := by
  intro pins s σ H Q I h
  refine wpAny_Call_Name_kw (ld_blt I hg hm hv ?_ hn hdb)
  exact PyProof.Rows.callWith_type1 (thn (ha pos pins s σ H _ I h) fun us s1 ⟨vs, H1, I1, r1, q1⟩ => hc pins s1 σ H1 vs us Q I1 r1 q1) he hpl
end
end L2

namespace HT
open PySem PyProof.Rows

section
open PySem.SeqAt
open PySem.AutoSeq1 (wpAny_loadPart')
open PySem.MeetsSeq PySem.MeetsSeq2 PySem.MeetsSeq3

end

section
variable {prog : Program} {w : World} {A : Around} {E : Value → Shared → Prop} {s : Shared}

/-- t + u, t not empty -/
theorem cat_tup {t b : Addr} {vs ws : List Value} {Q : Value → Shared → Prop} (ht : IsTup s.heap t vs.toArray) (hb : IsTup s.heap b ws.toArray) (hv : vs ≠ [])
    (h1 : ws = [] → Q (.ref t) s) (h2 : ws ≠ [] → Q (.ref s.heap.objs.size) { s with heap := s.heap.push { cls := .type "tuple", data := .seq (vs ++ ws).toArray } })
    (hsz : vs.length + ws.length ≤ sizeLine) : wpAny (model prog w) A (binaryOp .Add (.ref t) (.ref b)) Q E s := by
  obtain ⟨⟨cls, dd, data, sl⟩, ho, hc, n, hd⟩ := id ht
  obtain ⟨⟨cls2, dd2, data2, sl2⟩, ho2, hc2, n2, hd2⟩ := id hb
  simp only at hc hd hc2 hd2
  subst hc hd hc2 hd2
  have e : vs.toArray ++ ws.toArray = (vs ++ ws).toArray := by simp
  by_cases hw : ws = []
  · exact concat_meets ⟨_, ho, rfl⟩ ⟨_, ho2, rfl⟩ noFill_tuple_add seq_tuple_add PySem.F.slot_tuple_add PySem.F.entry_tuple_add (PySem.F.args_tuple_add_2 _ _)
      (tuple_addW1 t b vs.toArray ws.toArray n n2 dd dd2 sl sl2 (by simpa using hv) (by simp [hw])) ⟨ho, ho2, h1 hw⟩
  · refine concat_meets ⟨_, ho, rfl⟩ ⟨_, ho2, rfl⟩ noFill_tuple_add seq_tuple_add PySem.F.slot_tuple_add PySem.F.entry_tuple_add (PySem.F.args_tuple_add_2 _ _)
      (tuple_addW2 t b vs.toArray ws.toArray n n2 dd dd2 sl sl2 (by simpa using hv) (by simpa using hw) (by rw [List.size_toArray, List.size_toArray]; exact hsz)) ⟨ho, ho2, ?_⟩
    rw [e]
    exact h2 hw

/-! ### t[a:b], not the whole -/
/-- a slice's bound as a place among n (d where it is left out) -/
def sIx (n d : Nat) : Option Int → Nat
  | none => d
  | some v => if v < 0 then (v + (n : Int)).toNat else min v.toNat n
theorem sIx_none (n d : Nat) : sIx n d none = d := rfl
theorem sIx_nat (n d k : Nat) : sIx n d (some (k : Int)) = min k n := by
  show (if (k : Int) < 0 then ((k : Int) + (n : Int)).toNat else min (k : Int).toNat n) = min k n
  rw [if_neg (by omega), Int.toNat_natCast]
theorem sIx_le (n d : Nat) (hd : d ≤ n) (o : Option Int) : sIx n d o ≤ n := by
  cases o with
  | none => exact hd
  | some v =>
    show (if v < 0 then (v + (n : Int)).toNat else min v.toNat n) ≤ n
    by_cases hv : v < 0
    · rw [if_pos hv]; omega
    · rw [if_neg hv]; exact Nat.min_le_right _ _
theorem clip_eq (v : Int) (n d : Nat) : (if v < 0 then max (v + (n : Int)) 0 else min v (n : Int)) = ((sIx n d (some v) : Nat) : Int) := by
  show (if v < 0 then max (v + (n : Int)) 0 else min v (n : Int)) = (((if v < 0 then (v + (n : Int)).toNat else min v.toNat n) : Nat) : Int)
  by_cases hv : v < 0
  · simp only [if_pos hv]; omega
  · simp only [if_neg hv]; omega
theorem adjust_gen (lo hi : Option Int) (n : Nat) : Builtin.Slice.sliceAdjust lo hi 1 (n : Int) = (((sIx n 0 lo : Nat) : Int), ((sIx n n hi : Nat) : Int)) := by
  have h1 : ¬ ((1 : Int) < 0) := by omega
  unfold Builtin.Slice.sliceAdjust
  simp only [h1, if_false]
  refine Prod.ext ?_ ?_
  · cases lo with
    | none => rfl
    | some v => exact clip_eq v n 0
  · cases hi with
    | none => rfl
    | some v => exact clip_eq v n n
theorem places_gen (i j : Nat) : Builtin.Slice.slicePlaces (i : Int) (j : Int) 1 = j - i := by
  unfold Builtin.Slice.slicePlaces
  have h1 : (1 : Int) > 0 := by omega
  simp only [h1, if_true, Int.ediv_one]
  split <;> omega
theorem slicePart_ {v : Value} {o : Option Int} {Q : Option Int → Shared → Prop} (p : IsPart v o) (h : Q o s) : wpAny (model prog w) A (Builtin.Slice.slicePartIndex v) Q E s := by
  cases p with
  | none => exact slicePart_none h
  | int i t => exact slicePart_int h
theorem sliceApplied_gen {sl : Addr} {vl vu : Value} {lo hi : Option Int} {n : Nat} {Q : Int × Int × Nat → Shared → Prop} (hs : s.heap.IsSliceOf sl vl vu .none) (pl : IsPart vl lo) (pu : IsPart vu hi)
    (h : Q (((sIx n 0 lo : Nat) : Int), 1, sIx n n hi - sIx n 0 lo) s) : wpAny (model prog w) A (Builtin.Slice.sliceApplied (.ref sl) (pure (n : Int))) Q E s := by
  obtain ⟨os, hos, hcs, hds⟩ := id hs
  unfold Builtin.Slice.sliceApplied Builtin.Slice.sliceFields
  refine wpAny_bind (wpAny_bind (wpAny_field hos hds (x := vl) rfl (wpAny_bind (wpAny_field hos hds (x := vu) rfl (wpAny_bind (wpAny_field hos hds (x := .none) rfl (wpAny_pure ?_)))))))
  refine wpAny_bind (slicePart_none ?_)
  show wpAny _ _ (if ((1 : Int) == 0) = true then _ else _) _ _ s
  rw [if_neg (by decide)]
  refine wpAny_bind (slicePart_ pl (wpAny_bind (slicePart_ pu (wpAny_bind (wpAny_pure ?_)))))
  show wpAny _ _ (match Builtin.Slice.sliceAdjust lo hi 1 (n : Int) with | (lo, hi) => pure (lo, (1 : Int), Builtin.Slice.slicePlaces lo hi 1)) _ _ s
  rw [adjust_gen lo hi n]
  show wpAny _ _ (pure (((sIx n 0 lo : Nat) : Int), (1 : Int), Builtin.Slice.slicePlaces ((sIx n 0 lo : Nat) : Int) ((sIx n n hi : Nat) : Int) 1)) _ _ s
  rw [places_gen]
  exact wpAny_pure h
theorem pick_gen (xs : Array Value) (i k : Nat) : ((List.range k).filterMap fun (m : Nat) => xs[((i : Int) + (m : Int) * 1).toNat]?).toArray = ((xs.toList.drop i).take k).toArray := by
  have e : (fun (m : Nat) => xs[((i : Int) + (m : Int) * 1).toNat]?) = fun m => xs[i + m]? := by
    funext m
    have : ((i : Int) + (m : Int) * 1).toNat = i + m := by omega
    rw [this]
  rw [e]
  have := pick_run xs i k
  rw [List.filterMap_map] at this
  have e2 : ((fun x => xs[x]?) ∘ fun x => i + x) = fun m => xs[i + m]? := rfl
  rw [e2] at this
  rw [this]

theorem getItem_tuple_cut {t sl : Addr} {items : Array Value} {vl vu : Value} {lo hi : Option Int} {Q : Value → Shared → Prop} (ht : IsTup s.heap t items) (hs : s.heap.IsSliceOf sl vl vu .none) (pl : IsPart vl lo) (pu : IsPart vu hi)
    (hw : ¬ (sIx items.size 0 lo = 0 ∧ sIx items.size items.size hi = items.size))
    (h : Q (.ref s.heap.objs.size) { s with heap := s.heap.push { cls := .type "tuple", data := .seq ((items.toList.drop (sIx items.size 0 lo)).take (sIx items.size items.size hi - sIx items.size 0 lo)).toArray } })
    (hsz : items.size ≤ sizeLine) : wpAny (model prog w) A (getItem (.ref t) (.ref sl)) Q E s := by
  have htake : sizeOk (.seq ((items.toList.drop (sIx items.size 0 lo)).take (sIx items.size items.size hi - sIx items.size 0 lo)).toArray) := by
    show ((items.toList.drop (sIx items.size 0 lo)).take (sIx items.size items.size hi - sIx items.size 0 lo)).toArray.size ≤ sizeLine
    rw [List.size_toArray, List.length_take, List.length_drop, Array.length_toList]
    omega
  have hj : sIx items.size items.size hi ≤ items.size := sIx_le _ _ (Nat.le_refl _) hi
  obtain ⟨os, hos, hcs, hds⟩ := id hs
  have hTs : s.TypeIs (.ref sl) "slice" := ⟨os, hos, hcs⟩
  unfold getItem
  try with_reducible refine wpAny_holding ?_
  first | refine wpAny_bind (wpAny_pure ?_) | skip
  refine wpAny_bind (wpAny_sequenceKey ht.typeIs (by decide) ?_)
  refine wpAny_bind (wpAny_callSpecial?_slot (name := Str.ofString "__getitem__") ht.typeIs PyProof.Rows.slot_tuple_getitem
    (wpAny_call_entry PyProof.Rows.slot_tuple_getitem ht.typeIs entry_tuple_getitem ?_ (args_tuple_getitem _ _)))
  show wpAny _ _ (Builtin.Tuple.tupleItemsOf (.ref t) >>= _) _ _ s
  refine wpAny_bind (tupleItemsOf_ ht ?_)
  refine wpAny_bind (wpAny_typeOf hTs ?_)
  rw [if_pos (by decide)]
  refine wpAny_bind (sliceApplied_gen hs pl pu ?_)
  have hno : ¬ ((((sIx items.size 0 lo : Nat) : Int) == 0 && (1 : Int) == 1 && (sIx items.size items.size hi - sIx items.size 0 lo) == items.size) = true) := by
    intro q
    rw [Bool.and_eq_true, Bool.and_eq_true] at q
    have q1 : ((sIx items.size 0 lo : Nat) : Int) = 0 := eq_of_beq q.1.1
    have q2 : sIx items.size items.size hi - sIx items.size 0 lo = items.size := eq_of_beq q.2
    exact hw ⟨by omega, by omega⟩
  show wpAny _ _ (if (((sIx items.size 0 lo : Nat) : Int) == 0 && (1 : Int) == 1 && (sIx items.size items.size hi - sIx items.size 0 lo) == items.size) = true then _ else _) _ _ s
  rw [if_neg hno, pick_gen]
  first
    | exact wpAny_bind (m := Builtin.Tuple.tupleExact _) (wpAny_newObj_type (wpAny_pure ⟨_, rfl, wpAny_pure h⟩) htake)
    | exact wpAny_bind (m := Builtin.Tuple.tupleExact _) (wpAny_newObj_type (wpAny_bind (wpAny_pure (wpAny_pure ⟨_, rfl, wpAny_pure h⟩))) htake)
    | exact wpAny_bind (wpAny_bind (m := Builtin.Tuple.tupleExact _) (wpAny_newObj_type (wpAny_pure (wpAny_pure ⟨_, rfl, wpAny_pure h⟩)) htake))
    | exact wpAny_bind (wpAny_bind (m := Builtin.Tuple.tupleExact _) (wpAny_newObj_type (wpAny_pure ⟨_, rfl, wpAny_pure h⟩) htake))
end
end HT

namespace L2
open PySem PySem.Spec PyProof.Rows

/-! ### the parts of a slice -/
abbrev TO := St → Hp → (Option Int → Hp → Prop) → Prop
/-- a slice's part (left out, or an int) -/
def PO (X : Cx) (e : Option Expr) (t : TO) : Prop :=
  ∀ (pins : List (Addr × Obj)) (s : Shared) (σ : St) (H : Hp) (Q : Option Int → Hp → Prop), Inv X pins σ H s → t σ H Q →
    wpAny (model X.prog X.w) X.A (evalPart e X.env) (fun u s' => ∃ o H', Inv X pins σ H' s' ∧ IsPart u o ∧ Q o H') X.xe s
def tNoPart : TO := fun _ H Q => Q none H
def tPart (t : TE) : TO := fun σ H Q => t σ H fun x H1 => ∃ i, x = .int i ∧ Q (some i) H1

theorem intsAre_of {ns : List Int} : ∀ {us : List Value}, Vals (ns.map V.int) us → IntsAre us ns := by
  induction ns with
  | nil => intro us r; rw [List.map_nil] at r; cases r; exact .nil
  | cons n ns ih =>
    intro us r
    rw [List.map_cons] at r
    cases r with
    | cons r1 r2 =>
      obtain ⟨t, e⟩ := r1
      subst e
      exact .cons n t (ih r2)

section
variable {X : Cx} {e : Expr} {te : TE} {lo hi : Option Expr} {tl th : TO} {pos p2 : Pos}

theorem po_none : PO X none tNoPart := by
  intro pins s σ H Q I h
  rw [evalPart_none]
  exact wpAny_pure ⟨none, H, I, .none, h⟩
theorem po_some (h : PE X e te) : PO X (some e) (tPart te) := by
  intro pins s σ H Q I hw
  rw [evalPart_some]
  refine thn (h pins s σ H _ I hw) fun u s1 ⟨x, H1, I1, r1, q1⟩ => ?_
  obtain ⟨i, rfl, q⟩ := q1
  obtain ⟨t, rfl⟩ := r1
  exact ⟨some i, H1, I1, .int i t, q⟩

/-- what a slice of a value is, by values: the slice object stands at sl -/
def SlR (X : Cx) (r : V → Option Int → Option Int → Hp → VK → Prop) : Prop :=
  ∀ (pins : List (Addr × Obj)) (s : Shared) (σ : St) (H : Hp) (x : V) (v vl vu : Value) (lo hi : Option Int) (sl : Addr) (Q : VK), Inv X pins σ H s → RelV x v → s.heap.IsSliceOf sl vl vu .none → IsPart vl lo → IsPart vu hi → r x lo hi H Q →
    ∃ T id, typeLookup (.type T) "__getitem__" = pure (some (.builtin id)) ∧ s.TypeIs v T ∧ wpAny (model X.prog X.w) X.A (getItem v (.ref sl)) (EP X pins σ Q) X.xe s
def tSl (r : V → Option Int → Option Int → Hp → VK → Prop) (te : TE) (tl th : TO) : TE := fun σ H Q => te σ H fun x H1 => tl σ H1 fun l H2 => th σ H2 fun u H3 => r x l u H3 Q
/-- a[lo:hi], any a -/
theorem pe_slice {r : V → Option Int → Option Int → Hp → VK → Prop} (hr : SlR X r) (he : PE X e te) (hl : PO X lo tl) (hu : PO X hi th) : PE X (.Subscript e (.Slice lo hi none p2) pos) (tSl r te tl th) := by
  intro pins s σ H Q I h
  refine Subscript_ (thn (he pins s σ H _ I h) fun v s1 ⟨x, H1, I1, r1, q1⟩ => ?_)
  refine wpAny_Slice (thn (hl pins s1 σ H1 _ I1 q1) fun vl s2 ⟨l, H2, I2, pl, q2⟩ => thn (hu pins s2 σ H2 _ I2 q2) fun vu s3 ⟨u, H3, I3, pu, q3⟩ => ?_)
  rw [evalPart_none]
  refine wpAny_pure ?_
  have I4 : Inv X pins σ H3 { s3 with heap := s3.heap.push { cls := .type "slice", data := .fields #[vl, vu, .none] } } := I3.kept (t' := s3.toks) fun b ob q => Heap.get?_push_of_some _ q
  obtain ⟨T, id, hT, ht, hg⟩ := hr pins { s3 with heap := s3.heap.push { cls := .type "slice", data := .fields #[vl, vu, .none] } } σ H3 x v vl vu l u s3.heap.objs.size Q I4 r1 (Heap.IsSliceOf.new ..) pl pu q3
  show wpAny (model X.prog X.w) X.A (subscriptTail e (.Slice lo hi none p2) v (.ref s3.heap.objs.size)) (EP X pins σ Q) X.xe { s3 with heap := s3.heap.push { cls := .type "slice", data := .fields #[vl, vu, .none] } }
  exact tail_any (ops := [.ref s3.heap.objs.size, v]) ht hT hg (by with_unfolding_all rfl)

/-- the items of xs[lo:hi] -/
def cutV (xs : List V) (lo hi : Option Int) : List V := (xs.drop (HT.sIx xs.length 0 lo)).take (HT.sIx xs.length xs.length hi - HT.sIx xs.length 0 lo)
theorem cutV_length (xs : List V) (lo hi : Option Int) : (cutV xs lo hi).length ≤ xs.length := by
  unfold cutV
  rw [List.length_take, List.length_drop]
  omega
/-- t[lo:hi], not the whole of it (the whole would be t itself) -/
def rSlT (K : PySem.W.Frag) : V → Option Int → Option Int → Hp → VK → Prop := fun x lo hi H Q => ∃ a xs, x = .ref a ∧ SqT K H a xs ∧
  ¬ (HT.sIx xs.length 0 lo = 0 ∧ HT.sIx xs.length xs.length hi = xs.length) ∧ ∀ p, H p = none → Q (.ref p) (upd H p (.tup (cutV xs lo hi)))
theorem sl_tup : SlR X (rSlT X.K) := by
  intro pins s σ H x v vl vu lo hi sl Q I rx hs pl pu h
  obtain ⟨a, xs, rfl, hx, hw, q⟩ := h
  cases rx
  obtain ⟨its, r, ht, hz⟩ := I.tuple hx
  have hlen : its.toArray.size = xs.length := by rw [List.size_toArray]; exact r.length.symm
  refine ⟨"tuple", _, PyProof.Rows.slot_tuple_getitem.lookup, ht.typeIs, ?_⟩
  refine HT.getItem_tuple_cut ht hs pl pu (by rw [hlen]; exact hw) ?_ (by rw [hlen]; exact hz)
  rw [hlen]
  refine ⟨.ref s.heap.objs.size, _, I.laid (t' := s.toks) (o := .tup (cutV xs lo hi)) (fun b ob q => Heap.get?_push_of_some _ q) (Nat.le_refl _) ?_, rfl, q _ (I.hok.fresh (Nat.le_refl _))⟩
  exact ⟨Nat.le_trans (cutV_length xs lo hi) hz, _, (r.drop (HT.sIx xs.length 0 lo)).take (HT.sIx xs.length xs.length hi - HT.sIx xs.length 0 lo), IsTup.new _ _⟩

/-! ### t < u, t + u -/
/-- t + u, t not empty: u empty gives t itself -/
def rCatT (K : PySem.W.Frag) : R2 := fun x y H Q => ∃ a b xs ys, x = .ref a ∧ y = .ref b ∧ SqT K H a xs ∧ SqT K H b ys ∧ xs ≠ [] ∧ xs.length + ys.length ≤ sizeLine ∧
  (ys = [] → Q (.ref a) H) ∧ (ys ≠ [] → ∀ p, H p = none → Q (.ref p) (upd H p (.tup (xs ++ ys))))
theorem Vals.nil_iff {xs : List V} {us : List Value} (r : Vals xs us) : us = [] ↔ xs = [] := by
  cases r with
  | nil => simp
  | cons _ _ => simp
theorem op_catT : OpR X (binaryOp .Add) (rCatT X.K) := by
  intro pins s σ H x y v u Q I rx ry h
  obtain ⟨a, b, xs, ys, rfl, rfl, ha, hb, hx, hz, q1, q2⟩ := h
  cases rx
  cases ry
  obtain ⟨its, r1, p1, _⟩ := I.tuple ha
  obtain ⟨its2, r2, p2, _⟩ := I.tuple hb
  refine HT.cat_tup p1 p2 (fun z => hx (r1.nil_iff.mp z)) (fun z => ⟨.ref a, H, I, rfl, q1 (r2.nil_iff.mp z)⟩) (fun z => ?_) (by rw [← r1.length, ← r2.length]; exact hz)
  refine ⟨.ref s.heap.objs.size, _, I.laid (t' := s.toks) (o := .tup (xs ++ ys)) (fun b ob q => Heap.get?_push_of_some _ q) (Nat.le_refl _) ?_, rfl, q2 (fun w => z (r2.nil_iff.mpr w)) _ (I.hok.fresh (Nat.le_refl _))⟩
  exact ⟨by rw [List.length_append]; exact hz, _, r1.append r2, IsTup.new _ _⟩
end
end L2

namespace L2
open PySem PySem.Spec PyProof.Rows

/-! ### places -/
/-- the place that an index of any sign means -/
def ixN (n : Nat) (i : Int) : Option Nat := if 0 ≤ i then (if i < n then some i.toNat else none) else if -(n : Int) ≤ i then some (i + n).toNat else none
def atI {α : Type} (xs : List α) (i : Int) : Option α := (ixN xs.length i).bind fun j => xs[j]?
theorem ixN_seq {n : Nat} {i : Int} {j : Nat} (h : ixN n i = some j) : seqIndex? i n = some j ∧ j < n ∧ -(n : Int) ≤ i ∧ i < n := by
  unfold ixN at h
  by_cases h0 : 0 ≤ i
  · rw [if_pos h0] at h
    by_cases h1 : i < n
    · rw [if_pos h1] at h
      have e : i.toNat = j := Option.some.inj h
      exact ⟨by rw [seqIndex_of h0 h1, e], by omega, by omega, h1⟩
    · rw [if_neg h1] at h; cases h
  · rw [if_neg h0] at h
    by_cases h1 : -(n : Int) ≤ i
    · rw [if_pos h1] at h
      have e : (i + n).toNat = j := Option.some.inj h
      exact ⟨by rw [seqIndex_neg (by omega) h1, e], by omega, h1, by omega⟩
    · rw [if_neg h1] at h; cases h
theorem atI_get {α : Type} {xs : List α} {i : Int} {v : α} (h : atI xs i = some v) : ∃ j, seqIndex? i xs.length = some j ∧ xs[j]? = some v ∧ j < xs.length ∧ -(xs.length : Int) ≤ i ∧ i < xs.length := by
  unfold atI at h
  cases e : ixN xs.length i with
  | none => rw [e] at h; cases h
  | some j =>
    rw [e] at h
    obtain ⟨h1, h2, h3, h4⟩ := ixN_seq e
    exact ⟨j, h1, h, h2, h3, h4⟩
theorem atI_nat {α : Type} {xs : List α} {j : Nat} {v : α} (h : xs[j]? = some v) : atI xs (j : Int) = some v := by
  have hj : j < xs.length := (List.getElem?_eq_some_iff.mp h).1
  have e : ixN xs.length (j : Int) = some j := by
    unfold ixN
    rw [if_pos (by omega), if_pos (by omega)]; simp
  unfold atI; rw [e]; exact h
/-! ### what may be subscripted -/
/-- what stands as an index of a plain subscript -/
def PlainIx (b : Expr) : Prop := ∀ o i, subscripted b false o i = operate [o, i] (getItem o i)
/-- a subscript by values -/
def IxR (X : Cx) (r : R2) : Prop :=
  ∀ (value slice : Expr) (pins : List (Addr × Obj)) (s : Shared) (σ : St) (H : Hp) (x y : V) (v u : Value) (Q : VK), Inv X pins σ H s → RelV x v → RelV y u → r x y H Q →
    subscripted slice false v u = operate [v, u] (getItem v u) → wpAny (model X.prog X.w) X.A (subscriptTail value slice v u) (EP X pins σ Q) X.xe s
/-- a call of a builtin's method by values: the receiver, the arguments -/
def MtR (X : Cx) (id : String) (r : V → List V → Hp → VK → Prop) : Prop :=
  ∀ (pins : List (Addr × Obj)) (s : Shared) (σ : St) (H : Hp) (x : V) (xs : List V) (v : Value) (us : List Value) (Q : VK), Inv X pins σ H s → RelV x v → Vals xs us → r x xs H Q →
    wpAny (model X.prog X.w) X.A (call (.builtin id) (v :: us)) (EP X pins σ Q) X.xe s
section
variable {X : Cx} {a b : Expr} {ta tb : TE} {pos : Pos}
/-- a[b] -/
theorem pe_ix {r : R2} (hr : IxR X r) (ha : PE X a ta) (hb : PE X b tb) (hs : PlainIx b) : PE X (.Subscript a b pos) (tOp r ta tb) := by
  intro pins s σ H Q I h
  exact Subscript_ (binT ha hb I h fun v u s2 x y H2 I2 rx ry q => hr a b pins s2 σ H2 x y v u Q I2 rx ry q (hs _ _))

def rIxL (K : PySem.W.Frag) : R2 := fun x y H Q => ∃ p xs i v, x = .ref p ∧ y = .int i ∧ SqL K H p xs ∧ atI xs i = some v ∧ Q v H
def rIxT (K : PySem.W.Frag) : R2 := fun x y H Q => ∃ p xs i v, x = .ref p ∧ y = .int i ∧ SqT K H p xs ∧ atI xs i = some v ∧ Q v H
theorem ix_list : IxR X (rIxL X.K) := by
  intro value slice pins s σ H x y v u Q I rx ry h hs
  obtain ⟨p, xs, i, z, rfl, rfl, hq, he, q⟩ := h
  cases rx
  obtain ⟨t, rfl⟩ := ry
  obtain ⟨its, r, pl, hz⟩ := I.list hq
  obtain ⟨j, h1, h2, h3, h4, h5⟩ := atI_get he
  obtain ⟨w, ew, rw'⟩ := r.get h2
  have hl := r.length
  have hn := line63
  have fin : EP X pins σ Q w s := ⟨z, H, I, rw', q⟩
  by_cases h0 : 0 ≤ i
  · have hj : i.toNat = j := by
      rw [seqIndex_of h0 h5] at h1
      exact Option.some.inj h1
    exact item_listR pl.isList h0 (by omega) (by rw [hj]; simpa using ew) fin hs
  · have hj : (i + (its.toArray.size : Int)).toNat = j := by
      rw [seqIndex_neg (by omega) h4] at h1
      rw [List.size_toArray, ← hl]
      exact Option.some.inj h1
    exact subscriptTail_builtinR (x := w) pl.isList.typeIs slot_list_getitem.lookup
      (wpAny_getItem_list_neg (Q := fun r s' => r = w ∧ EP X pins σ Q r s') pl.isList (by omega) (by rw [List.size_toArray] <;> omega) (by omega) (by rw [hj]; simpa using ew) ⟨rfl, fin⟩) hs
theorem ix_tup : IxR X (rIxT X.K) := by
  intro value slice pins s σ H x y v u Q I rx ry h hs
  obtain ⟨p, xs, i, z, rfl, rfl, hq, he, q⟩ := h
  cases rx
  obtain ⟨t, rfl⟩ := ry
  obtain ⟨its, r, pl, hz⟩ := I.tuple hq
  obtain ⟨j, h1, h2, h3, h4, h5⟩ := atI_get he
  obtain ⟨w, ew, rw'⟩ := r.get h2
  have hl := r.length
  have hn := line63
  have fin : EP X pins σ Q w s := ⟨z, H, I, rw', q⟩
  exact subscriptTail_builtinR (x := w) pl.typeIs slot_tuple_getitem.lookup
    (getItem_tuple (j := j) (Q := fun r s' => r = w ∧ EP X pins σ Q r s') pl (by omega) (by omega) (by rw [List.size_toArray, ← hl]; exact h1) (by simpa using ew) ⟨rfl, fin⟩) hs
/-! ### xs[i] = v, any sign -/
/-- the list's object behind a store -/
theorem mapSeq_set (its : List Value) (n j : Nat) (u : Value) : Obj.mapSeq (·.setIfInBounds j u) { cls := .type "list", data := .seq its.toArray n } = { cls := .type "list", data := .seq (its.set j u).toArray n } := by
  simp [Obj.mapSeq]
theorem Inv.lst {pins : List (Addr × Obj)} {σ : St} {H : Hp} {s : Shared} {p : Addr} {xs : List V} (I : Inv X pins σ H s) (h : H p = some (.lst xs)) :
    ∃ (its : List Value) (n : Nat), Vals xs its ∧ s.heap.get? p = some { cls := .type "list", data := .seq its.toArray n } ∧ xs.length ≤ sizeLine := by
  obtain ⟨z, its, n, r, e⟩ := I.hok p _ h
  exact ⟨its, n, r, e, z⟩
/-- the list at p is written by an update of its object -/
theorem Inv.lstUpd {pins : List (Addr × Obj)} {σ : St} {H : Hp} {s : Shared} {p : Addr} {xs ys : List V} {its its' : List Value} {n n' : Nat} {f : Obj → Obj} (I : Inv X pins σ H s) (h : H p = some (.lst xs))
    (ho : s.heap.get? p = some { cls := .type "list", data := .seq its.toArray n }) (hf : f { cls := .type "list", data := .seq its.toArray n } = { cls := .type "list", data := .seq its'.toArray n' }) (r : Vals ys its') (hz : ys.length ≤ sizeLine) (t : Nat) :
    Inv X pins σ (upd H p (.lst ys)) { s with heap := s.heap.update p f, toks := t } := by
  have e : (s.heap.update p f).get? p = some { cls := .type "list", data := .seq its'.toArray n' } := by
    rw [Heap.get?_update_self f ho (by rw [hf] <;> rfl), hf]
  refine I.write (x := p) (e := p) (by rw [h]; trivial) (.inl rfl) (fun b u hb q => (Heap.get?_update_other _ _ (Ne.symm hb)).trans q) ⟨_, e⟩ ?_
  exact ⟨hz, its', n', r, e⟩
def rSetL : V → V → V → Hp → (Hp → Prop) → Prop := fun o i v H Q => ∃ p xs k j, o = .ref p ∧ i = .int k ∧ H p = some (.lst xs) ∧ ixN xs.length k = some j ∧ Q (upd H p (.lst (xs.set j v)))
theorem set_list : PSet X rSetL := by
  intro pins s σ H o i v ov iv u Q I ro ri rv h
  obtain ⟨p, xs, k, j, rfl, rfl, hp, hj, q⟩ := h
  cases ro
  obtain ⟨t, rfl⟩ := ri
  obtain ⟨its, n, r, ho, hz⟩ := I.lst hp
  obtain ⟨h1, h2, h3, h4⟩ := ixN_seq hj
  have hl := r.length
  have hn := line63
  have I' : Inv X pins σ (upd H p (.lst (xs.set j v))) { s with heap := s.heap.update p (Obj.mapSeq (·.setIfInBounds j u)) } :=
    I.lstUpd hp ho (mapSeq_set its n j u) (r.set rv j) (by rw [List.length_set]; exact hz) s.toks
  by_cases h0 : 0 ≤ k
  · have hk : k.toNat = j := by
      rw [seqIndex_of h0 h4] at h1
      exact Option.some.inj h1
    exact PySem.W.ki_setAt ho h0 (by omega) (by rw [List.size_toArray, ← hl]; exact h4) (by rw [hk]; exact ⟨_, I', q⟩)
  · have hk : (k + (its.toArray.size : Int)).toNat = j := by
      rw [seqIndex_neg (by omega) h3] at h1
      rw [List.size_toArray, ← hl]
      exact Option.some.inj h1
    exact PySem.W.ki_setBack ho (by omega) (by rw [List.size_toArray, ← hl]; exact h3) (by omega) (by rw [hk]; exact ⟨_, I', q⟩)

/-! ### slices -/
theorem slice_bounds (lo hi : Option Int) (n : Nat) : (sliceBounds lo hi none n).1 = ((HT.sIx n 0 lo : Nat) : Int) ∧ (sliceBounds lo hi none n).2.1 = ((HT.sIx n n hi : Nat) : Int) ∧ (sliceBounds lo hi none n).2.2 = 1 := by
  refine ⟨?_, ?_, rfl⟩
  · cases lo with
    | none => simp [sliceBounds, HT.sIx]
    | some i =>
      simp only [sliceBounds, HT.sIx, Option.getD_none, show (1 : Int) > 0 by decide, if_true]
      by_cases h : i < 0
      · simp only [h, if_true] <;> omega
      · simp only [h, if_false] <;> omega
  · cases hi with
    | none => simp [sliceBounds, HT.sIx]
    | some i =>
      simp only [sliceBounds, HT.sIx, Option.getD_none, show (1 : Int) > 0 by decide, if_true]
      by_cases h : i < 0
      · simp only [h, if_true] <;> omega
      · simp only [h, if_false] <;> omega
theorem slicePick_cut (its : List Value) (lo hi : Option Int) : slicePick its.toArray lo hi none = ((its.drop (HT.sIx its.length 0 lo)).take (HT.sIx its.length its.length hi - HT.sIx its.length 0 lo)).toArray := by
  obtain ⟨h1, h2, h3⟩ := slice_bounds lo hi its.toArray.size
  unfold slicePick
  rw [h1, h2, h3]
  simp only [sliceRange_one, pick_run, List.size_toArray] <;> rfl
/-- xs[lo:hi] of a list: a new list -/
def rSlL (K : PySem.W.Frag) : V → Option Int → Option Int → Hp → VK → Prop := fun x lo hi H Q => ∃ a xs, x = .ref a ∧ SqL K H a xs ∧ ∀ p, H p = none → Q (.ref p) (upd H p (.lst (cutV xs lo hi)))
theorem sl_list : SlR X (rSlL X.K) := by
  intro pins s σ H x v vl vu lo hi sl Q I rx hs pl pu h
  obtain ⟨a, xs, rfl, hx, q⟩ := h
  cases rx
  obtain ⟨its, r, ht, hz⟩ := I.list hx
  have hlen := r.length
  refine ⟨"list", _, slot_list_getitem.lookup, ht.isList.typeIs, ?_⟩
  refine wpAny_getItem_list_slice ht.isList hs pl pu .none (by simp) ?_ (by rw [List.size_toArray] <;> omega)
  rw [slicePick_cut, ← hlen]
  refine ⟨.ref s.heap.objs.size, _, I.laid (t' := s.toks) (o := .lst (cutV xs lo hi)) (fun b ob q => Heap.get?_push_of_some _ q) (Nat.le_refl _) ?_, rfl, q _ (I.hok.fresh (Nat.le_refl _))⟩
  exact ⟨Nat.le_trans (cutV_length xs lo hi) hz, _, 0, (r.drop (HT.sIx xs.length 0 lo)).take (HT.sIx xs.length xs.length hi - HT.sIx xs.length 0 lo), Heap.get?_push_size _ rfl⟩

/-! ### in, not in: flat items -/
/-! ### len, list(x), tuple(x) of any list or tuple that is read -/
theorem call_len_seq : CallR X (.builtin "len") (fun xs H Q => ∃ p ys, xs = [.ref p] ∧ (SqL X.K H p ys ∨ SqT X.K H p ys) ∧ Q (.int ys.length) H) := by
  intro pins s σ H xs us Q I r h
  obtain ⟨p, ys, rfl, hq, q⟩ := h
  obtain ⟨u, rfl, rx⟩ := vals1 r
  cases rx
  have hn := line63
  rcases hq with hq | hq
  · obtain ⟨its, r', pl, hz⟩ := I.list hq
    have hlen := r'.length
    exact Calls.call_len_list pl.isList (by simp only [List.size_toArray] <;> omega) ⟨.int ys.length, H, I.tok _, ⟨s.toks + 1, by rw [List.size_toArray, hlen]⟩, q⟩
  · obtain ⟨its, r', pl, hz⟩ := I.tuple hq
    have hlen := r'.length
    exact len_tuple pl (by simp only [List.size_toArray] <;> omega) ⟨.int ys.length, H, I.tok _, ⟨s.toks + 1, by rw [List.size_toArray, hlen]⟩, q⟩
theorem call_list_of : CallR X (.type "list") (fun xs H Q => ∃ p ys, xs = [.ref p] ∧ (SqL X.K H p ys ∨ SqT X.K H p ys) ∧ ∀ l, H l = none → Q (.ref l) (upd H l (.lst ys))) := by
  intro pins s σ H xs us Q I r h
  obtain ⟨p, ys, rfl, hq, q⟩ := h
  obtain ⟨u, rfl, rx⟩ := vals1 r
  cases rx
  have fin : ∀ (its : List Value), Vals ys its → ys.length ≤ sizeLine → ∀ (h' : Heap) (c' : Nat), (∀ b o', s.heap.get? b = some o' → h'.get? b = some o') →
      h'.get? s.heap.objs.size = some { cls := .type "list", dict := none, data := .seq its.toArray c', slots := #[] } → EP X pins σ Q (.ref s.heap.objs.size) { s with heap := h' } := fun its r' hz h' c' kp e =>
    ⟨.ref s.heap.objs.size, _, I.laid (t' := s.toks) kp (Nat.le_refl _) (show ObjOk X.prog X.w _ h' _ (.lst ys) from ⟨hz, its, c', r', e⟩), rfl, q _ (I.hok.fresh (Nat.le_refl _))⟩
  rcases hq with hq | hq
  · obtain ⟨its, r', pl, hz⟩ := I.list hq
    have hlen := r'.length
    obtain ⟨o, ho, hc, n, hd⟩ := pl.isList
    exact call_list_seq p (.inl rfl) ho hc hd (fun h' c' kp e => fin its r' hz h' c' kp e) (by simp only [List.size_toArray] <;> omega)
  · obtain ⟨its, r', pl, hz⟩ := I.tuple hq
    have hlen := r'.length
    obtain ⟨o, ho, hc, n, hd⟩ := pl
    exact call_list_seq p (.inr rfl) ho hc hd (fun h' c' kp e => fin its r' hz h' c' kp e) (by simp only [List.size_toArray] <;> omega)
/-! ### the call of a builtin's method: o.m(..) -/
/-- the value is of that builtin type -/
def tyV (K : PySem.W.Frag) (T : String) (x : V) (H : Hp) : Prop := match x with
  | .str _ => T = "str"
  | .int _ => T = "int"
  | .ref p => (T = "list" ∧ ∃ xs, SqL K H p xs) ∨ (T = "tuple" ∧ ∃ o, K.lookup p = some o ∧ o.cls = .type "tuple" ∧ o.dict = none) ∨
      (T = "dict" ∧ ((∃ kvs, H p = some (.dK kvs)) ∨ ∃ kvs, H p = some (.dT kvs))) ∨ (T = "set" ∧ ∃ S n, H p = some (.set S n))
  | _ => False
theorem tyV_is {pins : List (Addr × Obj)} {σ : St} {H : Hp} {s : Shared} {T : String} {x : V} {v : Value} (I : Inv X pins σ H s) (r : RelV x v) (ty : tyV X.K T x H) :
    s.TypeIs v T ∧ ∀ a, v = .ref a → ∃ ob, s.heap.get? a = some ob ∧ ob.dict = none := by
  cases x with
  | str z =>
    obtain ⟨t, rfl⟩ := r
    cases (show T = "str" from ty)
    exact ⟨typeIs_str s z t, fun _ e => nomatch e⟩
  | int i =>
    obtain ⟨t, rfl⟩ := r
    cases (show T = "int" from ty)
    exact ⟨typeIs_int s i t, fun _ e => nomatch e⟩
  | ref p =>
    cases r
    rcases ty with ⟨rfl, xs, hq⟩ | ⟨rfl, o, hk, hc, hd⟩ | ⟨rfl, hk⟩ | ⟨rfl, S, n, hk⟩
    · obtain ⟨its, _, pl, _⟩ := I.list hq
      refine ⟨pl.isList.typeIs, fun a e => ?_⟩
      cases e
      obtain ⟨o, n, e, c, hd, _⟩ := pl
      exact ⟨o, e, hd⟩
    · refine ⟨⟨o, I.kIn p o hk, hc⟩, fun a e => ?_⟩
      cases e
      exact ⟨o, I.kIn _ o hk, hd⟩
    · have z : ∃ o, s.heap.get? p = some o ∧ o.ExactDict := by
        rcases hk with ⟨kvs, hk⟩ | ⟨kvs, hk⟩
        · obtain ⟨_, _, _, _, o, _, _, e, ex, _⟩ := I.hok p _ hk
          exact ⟨o, e, ex⟩
        · obtain ⟨_, _, _, _, o, _, _, e, ex, _⟩ := I.hok p _ hk
          exact ⟨o, e, ex⟩
      obtain ⟨o, e, ex⟩ := z
      refine ⟨⟨o, e, ex.1⟩, fun a e2 => ?_⟩
      cases e2
      exact ⟨o, e, ex.2.1⟩
    · obtain ⟨o, _, _, _, e, ex, _⟩ := I.hok p _ hk
      refine ⟨⟨o, e, ex.1⟩, fun a e2 => ?_⟩
      cases e2
      exact ⟨o, e, ex.2.1⟩
  | _ => exact False.elim ty
def tBM (K : PySem.W.Frag) (T : String) (r : V → List V → Hp → VK → Prop) (to : TE) (t : TA) : TE := fun σ H Q => to σ H fun x H1 => tyV K T x H1 ∧ t σ H1 fun xs H2 => r x xs H2 Q
variable {o e : Expr} {es : List Expr} {to : TE} {t : TA} {name : Str} {apos cpos : Pos} {T id : String} {r : V → List V → Hp → VK → Prop}
theorem pe_bm (pa : PlainAttrs T) (slot : Slot T name id) (hty : typeOf (.builtin id) = pure (.type "method_descriptor")) (hm : MtR X id r) (ho : PE X o to) (ha : PA X (e :: es) t)
    (hbase : attributeBase o name X.env (eval o X.env) = eval o X.env := by rfl)
    (hfew : ((backTo cpos (starEach (e :: es) X.env)).all (fun x => !x.1) && (backToKw cpos (keywordEach [] X.env)).all (fun x => x.1.isSome)
      && decide ((e :: es).length + ([] : List Keyword).length + (if ([] : List Keyword).isEmpty then 0 else 1) < 30)) = true := by rfl)
    (hline : (apos.endLine == cpos.line) = true := by rfl) (hs : starEach (e :: es) X.env = (false, eval e X.env) :: starEach es X.env := by rfl) (hplain : (backTo cpos (starEach es X.env)).any (·.1) = false := by rfl) :
    PE X (.Call (.Attribute o name apos) (e :: es) [] cpos) (tBM X.K T r to t) := by
  intro pins s σ H Q I h
  refine wpAny_Call_method_late hbase hfew hline rfl (thn (ho pins s σ H _ I h) fun v s1 ⟨x, H1, I1, r1, ty, q1⟩ => ?_)
  obtain ⟨h1, h2⟩ := tyV_is I1 r1 ty
  refine ⟨T, id, pa, slot, hty, h1, h2, ?_⟩
  have hA := ha cpos pins s1 σ H1 _ I1 q1
  rw [hs] at hA ⊢
  refine Calls.callWith_builtin (by show (false || (backTo cpos (starEach es X.env)).any (·.1)) = false; rw [hplain] <;> rfl) (Calls.evalArgs_plain ?_)
  exact thn hA fun us s2 ⟨vs, H2, I2, r2, q2⟩ => hm pins s2 σ H2 x vs v us Q I2 r1 r2 q2
/- xs.append(e), list.index on a module's tuple .. are MtR facts of 06m -/
end
end L2

namespace L2
open PySem PySem.Spec PyProof.Rows

def MtM (X : Cx) (id : String) (r : V → List V → Hp → VK → Prop) : Prop :=
  ∀ (pins : List (Addr × Obj)) (s : Shared) (σ : St) (H : Hp) (x : V) (xs : List V) (v : Value) (us : List Value) (Q : VK), Inv X pins σ H s → RelV x v → Vals xs us → r x xs H Q →
    wpAny (model X.prog X.w) X.A (call (.builtin id) (v :: us)) (EP X pins σ Q) X.xe s

/-! ### lists of values -/
theorem Vals.one {x : V} {us : List Value} (h : Vals [x] us) : ∃ u, us = [u] ∧ RelV x u := by
  cases h with
  | cons r t => cases t; exact ⟨_, rfl, r⟩
theorem Vals.eraseIdx : ∀ {xs : List V} {us : List Value} (i : Nat), Vals xs us → Vals (xs.eraseIdx i) (us.eraseIdx i)
  | _, _, _, .nil => .nil
  | _, _, 0, .cons _ t => t
  | _, _, i + 1, .cons r t => .cons r (Vals.eraseIdx i t)
theorem Vals.rep {xs : List V} {us : List Value} (h : Vals xs us) : ∀ k : Nat, Vals (List.replicate k xs).flatten (List.replicate k us).flatten
  | 0 => .nil
  | k + 1 => by
    rw [List.replicate_succ, List.replicate_succ, List.flatten_cons, List.flatten_cons]
    exact Vals.append h (Vals.rep h k)
theorem len_erase {α : Type} : ∀ (l : List α) (i : Nat), (l.eraseIdx i).length ≤ l.length
  | [], _ => Nat.le_refl _
  | _ :: _, 0 => Nat.le_succ _
  | _ :: r, i + 1 => Nat.succ_le_succ (len_erase r i)
theorem foldl_rep (its : List Value) : ∀ (k : Nat) (acc : List Value),
    List.foldl (fun x1 x2 => x1 ++ x2) acc.toArray (List.replicate k its.toArray) = (acc ++ (List.replicate k its).flatten).toArray
  | 0, acc => by simp
  | k + 1, acc => by
    have e : acc.toArray ++ its.toArray = (acc ++ its).toArray := by simp
    have e2 : (acc ++ its) ++ (List.replicate k its).flatten = acc ++ (List.replicate (k + 1) its).flatten := by
      rw [List.replicate_succ, List.flatten_cons, List.append_assoc]
    rw [← e2, ← foldl_rep its k (acc ++ its), ← e, List.replicate_succ, List.foldl_cons]

section
variable {X : Cx} {pins : List (Addr × Obj)} {σ : St} {H : Hp} {s : Shared} {l b : Addr} {xs ys zs : List V}

/-! ### the two steps: a tracked list is rewritten, a new list is laid -/
theorem Inv.lset {its its' : List Value} {n : Nat} {f : Array Value → Array Value} {t' : Nat} (I : Inv X pins σ H s) (hH : H l = some (.lst xs))
    (e : s.heap.get? l = some { cls := .type "list", data := .seq its.toArray n }) (hf : f its.toArray = its'.toArray) (hv : Vals ys its') (hz : ys.length ≤ sizeLine) :
    Inv X pins σ (upd H l (.lst ys)) { s with heap := s.heap.update l (Obj.mapSeq f), toks := t' } := by
  have q := PySem.IsL.update e f
  rw [hf] at q
  refine I.write (x := l) (e := l) (by rw [hH]; exact trivial) (.inl rfl) (fun b' u hb hu => (Heap.get?_update_other s.heap (Obj.mapSeq f) (Ne.symm hb)).trans hu) ⟨_, q⟩ ?_
  exact ⟨hz, its', _, hv, q⟩
theorem Inv.lnew {its : List Value} {t' : Nat} (I : Inv X pins σ H s) (hv : Vals ys its) (hz : ys.length ≤ sizeLine) :
    Inv X pins σ (upd H s.heap.objs.size (.lst ys)) { s with heap := s.heap.push { cls := .type "list", data := .seq its.toArray }, toks := t' } :=
  I.laid (fun _ _ q => Heap.get?_push_of_some _ q) (Nat.le_refl _) ⟨hz, its, 0, hv, Heap.get?_push_size _ rfl⟩
theorem Inv.fresh (I : Inv X pins σ H s) : H s.heap.objs.size = none := I.hok.fresh (Nat.le_refl _)
theorem Inv.lstM (I : Inv X pins σ H s) (hH : H l = some (.lst xs)) : xs.length ≤ sizeLine ∧ ∃ (its : List Value) (n : Nat), Vals xs its ∧ xs.length = its.length ∧ s.heap.get? l = some { cls := .type "list", data := .seq its.toArray n } := by
  obtain ⟨z, its, n, r, e⟩ := I.hok l _ hH
  exact ⟨z, its, n, r, r.length, e⟩

theorem notLongL {n : Nat} (h : n ≤ sizeLine) : Builtin.List.listTooLong n = false := by
  unfold Builtin.List.listTooLong
  exact decide_eq_false (by omega)
end

section
variable {X : Cx}

/-! ### methods -/
def rAppend : V → List V → Hp → VK → Prop := fun x vs H Q => ∃ l xs y, x = .ref l ∧ vs = [y] ∧ H l = some (.lst xs) ∧ xs.length < sizeLine ∧ Q .non (upd H l (.lst (xs ++ [y])))
theorem mt_append : MtM X "list.append" rAppend := by
  intro pins s σ H x vs v us Q I rx rv h
  obtain ⟨l, xs, y, rfl, rfl, hH, hz, q⟩ := h
  cases rx
  obtain ⟨u, rfl, ru⟩ := rv.one
  obtain ⟨z, its, n, r, hl, e⟩ := I.lstM hH
  refine call_meets F.slot_list_append ⟨_, e, rfl⟩ F.entry_list_append (F.args_list_append_2 _ _) (PySem.list_append l its.toArray n u (by rw [List.size_toArray]; omega)) ⟨e, ?_⟩
  refine ⟨.non, _, I.lset (its' := its ++ [u]) hH e (by simp) (r.append (.cons ru .nil)) ?_, rfl, q⟩
  rw [List.length_append, List.length_singleton]
  omega

def rExtend : V → List V → Hp → VK → Prop := fun x vs H Q => ∃ l b xs zs, x = .ref l ∧ vs = [.ref b] ∧ H l = some (.lst xs) ∧ H b = some (.lst zs) ∧ xs.length + zs.length ≤ sizeLine ∧ Q .non (upd H l (.lst (xs ++ zs)))
theorem mt_extend : MtM X "list.extend" rExtend := by
  intro pins s σ H x vs v us Q I rx rv h
  obtain ⟨l, b, xs, zs, rfl, rfl, hH, hB, hz, q⟩ := h
  cases rx
  obtain ⟨u, rfl, ru⟩ := rv.one
  cases ru
  obtain ⟨z, its, n, r, hl, e⟩ := I.lstM hH
  obtain ⟨z2, its2, n2, r2, hl2, e2⟩ := I.lstM hB
  have hsz : its.toArray.size + its2.toArray.size ≤ sizeLine := by rw [List.size_toArray, List.size_toArray]; omega
  have hlong : ¬ (!its.toArray.isEmpty && Builtin.List.listTooLong (its.toArray.size + its2.toArray.size)) = true := by
    rw [notLongL hsz, Bool.and_false]
    exact Bool.false_ne_true
  refine call_meets F.slot_list_extend ⟨_, e, rfl⟩ F.entry_list_extend (F.args_list_extend_2 _ _)
    (AutoSeq1.list_extend_list_list_0 l its.toArray n b its2.toArray n2 hlong (by rw [List.size_toArray]; omega) (by omega)) ⟨e, e2, ?_⟩
  refine ⟨.non, _, I.lset (its' := its ++ its2) hH e (by simp) (r.append r2) ?_, rfl, q⟩
  rw [List.length_append]
  omega

def rPopAt : V → List V → Hp → VK → Prop := fun x vs H Q => ∃ l xs i k y, x = .ref l ∧ vs = [.int i] ∧ H l = some (.lst xs) ∧ -(2 ^ 63) ≤ i ∧ i < 2 ^ 63 ∧ seqIndex? i xs.length = some k ∧ xs[k]? = some y ∧ Q y (upd H l (.lst (xs.eraseIdx k)))
theorem mt_popAt : MtM X "list.pop" rPopAt := by
  intro pins s σ H x vs v us Q I rx rv h
  obtain ⟨l, xs, i, k, y, rfl, rfl, hH, h1, h2, hk, hy, q⟩ := h
  cases rx
  obtain ⟨u, rfl, ru⟩ := rv.one
  obtain ⟨t, rfl⟩ := ru
  obtain ⟨z, its, n, r, hl, e⟩ := I.lstM hH
  obtain ⟨w, hw, rw'⟩ := r.get hy
  refine call_meets F.slot_list_pop ⟨_, e, rfl⟩ F.entry_list_pop (F.args_list_pop_2 _ _)
    (MeetsSeq.list_pop_at l its.toArray n i t k w (fitsIndex_both h1 h2) (by rw [List.size_toArray, ← hl]; exact hk) (by rw [← Array.getElem?_toList]; exact hw) (by rw [List.size_toArray]; omega)) ⟨e, ?_⟩
  refine ⟨y, _, I.lset (its' := its.eraseIdx k) hH e ?_ (r.eraseIdx k) ?_, rw', q⟩
  · show its.toArray.eraseIdxIfInBounds k = (its.eraseIdx k).toArray
    rw [List.eraseIdxIfInBounds_toArray]
  · have := len_erase xs k
    omega

/-! ### list + list, list += list, list * int -/
def rCat : R2 := fun x y H Q => ∃ l b xs zs, x = .ref l ∧ y = .ref b ∧ H l = some (.lst xs) ∧ H b = some (.lst zs) ∧ xs.length + zs.length ≤ sizeLine ∧ ∀ p, H p = none → Q (.ref p) (upd H p (.lst (xs ++ zs)))
theorem op_cat : OpR X (binaryOp .Add) rCat := by
  intro pins s σ H x y v u Q I rx ry h
  obtain ⟨l, b, xs, zs, rfl, rfl, hH, hB, hz, q⟩ := h
  cases rx
  cases ry
  obtain ⟨z, its, n, r, hl, e⟩ := I.lstM hH
  obtain ⟨z2, its2, n2, r2, hl2, e2⟩ := I.lstM hB
  refine PySem.P.add_list e e2 ?_ (by rw [List.size_toArray, List.size_toArray]; omega)
  have ea : its.toArray ++ its2.toArray = (its ++ its2).toArray := by simp
  rw [ea]
  exact ⟨.ref _, _, I.lnew (t' := s.toks) (r.append r2) (by rw [List.length_append]; omega), rfl, q _ I.fresh⟩
/-- a list times an int (a negative one is nothing) -/
def rRep : R2 := fun x y H Q => ∃ l k xs, x = .ref l ∧ y = .int k ∧ H l = some (.lst xs) ∧ -(2 ^ 63) ≤ k ∧ k < 2 ^ 63 ∧ xs.length * k.toNat ≤ sizeLine ∧
  ∀ p, H p = none → Q (.ref p) (upd H p (.lst (List.replicate k.toNat xs).flatten))
theorem len_rep {α : Type} (xs : List α) (k : Nat) : (List.replicate k xs).flatten.length = k * xs.length := by
  induction k with
  | zero => simp
  | succ k ih => rw [List.replicate_succ, List.flatten_cons, List.length_append, ih, Nat.succ_mul, Nat.add_comm]
theorem op_rep : OpR X (binaryOp .Mult) rRep := by
  intro pins s σ H x y v u Q I rx ry h
  obtain ⟨l, k, xs, rfl, rfl, hH, h1, h2, hz, q⟩ := h
  cases rx
  obtain ⟨t, rfl⟩ := ry
  obtain ⟨z, its, n, r, hl, e⟩ := I.lstM hH
  have hlen : its.toArray.size * k.toNat ≤ sizeLine := by rw [List.size_toArray, ← hl]; exact hz
  have hcap : ¬ its.toArray.size * k.toNat > (2 ^ 63 - 1) / 8 := by
    have : (sizeLine : Nat) ≤ (2 ^ 63 - 1) / 8 := by decide
    omega
  have hfit : ¬ (!Builtin.List.listFitsIndex k) = true := by
    rw [fitsIndex_both h1 h2]
    exact Bool.false_ne_true
  have hlong : ¬ Builtin.List.listTooLong (its.toArray.size * k.toNat) = true := by
    rw [notLongL hlen]
    exact Bool.false_ne_true
  have hnew : List.foldl (fun x1 x2 => x1 ++ x2) #[] (List.replicate (if its.toArray.isEmpty = true then 0 else k.toNat) its.toArray) = (List.replicate k.toNat its).flatten.toArray := by
    have f0 : ∀ m : Nat, List.foldl (fun x1 x2 => x1 ++ x2) #[] (List.replicate m its.toArray) = (List.replicate m its).flatten.toArray := fun m => by
      have := foldl_rep its m []
      rw [List.nil_append] at this
      exact this
    rw [f0]
    cases its with
    | nil => simp
    | cons a r' => rw [if_neg (by simp)]
  refine wpAny_binaryOp_repeat_ref (T := "list") (U := "int") (by decide) ⟨_, e, rfl⟩ (fun s' => typeIs_int s' k t) noFill_list_mul F.fills_int_mul F.slot_int_rmul repeat_list F.slot_int_index.lookup
    (call_meets F.slot_int_rmul (typeIs_int s k t) F.entry_int_rmul (F.args_int_rmul_2 _ _) (int___rmul___int_list k t l its.toArray n)
      ⟨e, rfl, ⟨_, e, rfl⟩, call_meets F.slot_list_mul ⟨_, e, rfl⟩ F.entry_list_mul (F.args_list_mul_2 _ _) (AutoListH.list___mul___list_int_3 l its.toArray n k t hfit hcap hlong) ⟨e, ?_⟩⟩)
  rw [hnew]
  exact ⟨.ref _, _, I.lnew (t' := s.toks) (r.rep k.toNat) (by rw [len_rep, Nat.mul_comm]; exact hz), rfl, q _ I.fresh⟩

/-! ### del xs[i] -/
end

/-! ### xs[a:b] = ys -/
section
variable {prog : Program} {w : World} {A : Around} {E : Value → Shared → Prop} {s : Shared}
end

section
variable {X : Cx}
end
end L2

namespace L2
open PySem PySem.Spec PyProof.Rows

/-! ### lists of pairs as tables -/
section
variable {κ : Type} [DecidableEq κ]
def valV (kvs : List (κ × V)) (k : κ) : Option V := (kvs.find? fun kv => decide (kv.1 = k)).map (·.2)
/-- in its place, or at the end -/
def putK (kvs : List (κ × V)) (k : κ) (v : V) : List (κ × V) :=
  if (kvs.any fun kv => decide (kv.1 = k)) = true then kvs.map (fun kv => if kv.1 = k then (kv.1, v) else kv) else kvs ++ [(k, v)]
theorem valV_pos {p : κ × V} {r : List (κ × V)} {k : κ} (e : p.1 = k) : valV (p :: r) k = some p.2 := by simp [valV, List.find?_cons, e]
theorem valV_neg {p : κ × V} {r : List (κ × V)} {k : κ} (e : ¬ p.1 = k) : valV (p :: r) k = valV r k := by simp [valV, List.find?_cons, e]
theorem valV_any (k : κ) : ∀ kvs : List (κ × V), (kvs.any fun kv => decide (kv.1 = k)) = (valV kvs k).isSome
  | [] => rfl
  | p :: r => by
    rw [List.any_cons]
    by_cases e : p.1 = k
    · simp only [valV_pos e, decide_eq_true e, Bool.true_or, Option.isSome_some]
    · rw [valV_neg e, decide_eq_false e, Bool.false_or]; exact valV_any k r
theorem valV_map (k j : κ) (y : V) : ∀ kvs : List (κ × V), valV (kvs.map fun kv => if kv.1 = k then (kv.1, y) else kv) j = (valV kvs j).map fun x => if j = k then y else x
  | [] => rfl
  | p :: r => by
    have ih := valV_map k j y r
    rw [List.map_cons]
    by_cases h : p.1 = k
    · rw [if_pos h]
      by_cases e : p.1 = j
      · rw [valV_pos (p := (p.1, y)) e, valV_pos e, Option.map_some, if_pos (e.symm.trans h)]
      · rw [valV_neg (p := (p.1, y)) e, valV_neg e, ih]
    · rw [if_neg h]
      by_cases e : p.1 = j
      · rw [valV_pos (p := p) e, valV_pos e, Option.map_some, if_neg (fun z => h (e.trans z))]
      · rw [valV_neg (p := p) e, valV_neg e, ih]
theorem valV_snoc (k j : κ) (y : V) : ∀ kvs : List (κ × V), valV kvs k = none → valV (kvs ++ [(k, y)]) j = if j = k then some y else valV kvs j
  | [], _ => by
    by_cases e : k = j
    · rw [if_pos e.symm]; exact valV_pos (p := (k, y)) e
    · rw [if_neg (fun z => e z.symm)]; exact valV_neg (p := (k, y)) e
  | p :: r, hn => by
    rw [List.cons_append]
    have hk : ¬ p.1 = k := fun z => by rw [valV_pos z] at hn; cases hn
    rw [valV_neg hk] at hn
    have ih := valV_snoc k j y r hn
    by_cases e : p.1 = j
    · rw [valV_pos e, valV_pos e, if_neg (fun z => hk (e.trans z))]
    · rw [valV_neg e, valV_neg e, ih]
theorem valV_put (kvs : List (κ × V)) (k j : κ) (y : V) : valV (putK kvs k y) j = if j = k then some y else valV kvs j := by
  unfold putK
  by_cases a : (kvs.any fun kv => decide (kv.1 = k)) = true
  · rw [if_pos a, valV_map]
    rw [valV_any] at a
    by_cases e : j = k
    · obtain ⟨x, hx⟩ := Option.isSome_iff_exists.mp a
      rw [if_pos e, e, hx, Option.map_some, if_pos rfl]
    · rw [if_neg e]
      cases valV kvs j with
      | none => rfl
      | some x => rw [Option.map_some, if_neg e]
  · rw [if_neg a]
    refine valV_snoc k j y kvs ?_
    rw [valV_any] at a
    cases q : valV kvs k with
    | none => rfl
    | some x => rw [q] at a; exact (a rfl).elim
theorem length_putK (kvs : List (κ × V)) (k : κ) (v : V) : (putK kvs k v).length ≤ kvs.length + 1 := by
  unfold putK
  split
  · rw [List.length_map]; omega
  · rw [List.length_append, List.length_cons, List.length_nil]; omega
theorem RelO.isSome_eq {o : Option V} {u : Option Value} (r : RelO o u) : o.isSome = u.isSome := by
  cases o with
  | none => cases u with
    | none => rfl
    | some _ => exact (show False from r).elim
  | some _ => cases u with
    | none => exact (show False from r).elim
    | some _ => rfl
theorem RelO.getD {o : Option V} {u : Option Value} {d : V} {d' : Value} (r : RelO o u) (rd : RelV d d') : RelV (o.getD d) (u.getD d') := by
  cases o with
  | none => cases u with
    | none => exact rd
    | some _ => exact (show False from r).elim
  | some _ => cases u with
    | none => exact (show False from r).elim
    | some _ => exact r

/-- raw tables of the same keys -/
theorem KV.val {kvs : List (κ × V)} {vs : List (κ × Value)} (r : KV kvs vs) (k : κ) : RelO (valV kvs k) (valueAt vs k) := by
  unfold KV at r
  induction r with
  | nil => exact True.intro
  | @cons p q ps qs h t ih =>
    obtain ⟨h1, h2⟩ := h
    by_cases e : p.1 = k
    · have e' : q.1 = k := h1.symm.trans e
      have b : valueAt (q :: qs) k = some q.2 := by simp [valueAt, List.find?_cons, e']
      rw [valV_pos e, b]; exact h2
    · have e' : ¬ q.1 = k := fun z => e (h1.trans z)
      have b : valueAt (q :: qs) k = valueAt qs k := by simp [valueAt, List.find?_cons, e']
      rw [valV_neg e, b]; exact ih
theorem KV.any {kvs : List (κ × V)} {vs : List (κ × Value)} (r : KV kvs vs) (k : κ) : (kvs.any fun kv => decide (kv.1 = k)) = vs.any fun kv => decide (kv.1 = k) := by
  unfold KV at r
  induction r with
  | nil => rfl
  | cons h t ih => rw [List.any_cons, List.any_cons, ih, h.1]
theorem KV.repl {kvs : List (κ × V)} {vs : List (κ × Value)} (r : KV kvs vs) (k : κ) {y : V} {u : Value} (ry : RelV y u) :
    KV (kvs.map fun kv => if kv.1 = k then (kv.1, y) else kv) (vs.map fun kv => if kv.1 = k then (kv.1, u) else kv) := by
  unfold KV at r ⊢
  induction r with
  | nil => exact .nil
  | @cons p q ps qs h t ih =>
    rw [List.map_cons, List.map_cons]
    refine .cons ?_ ih
    obtain ⟨h1, h2⟩ := h
    by_cases e : p.1 = k
    · rw [if_pos e, if_pos (h1.symm.trans e)]; exact ⟨h1, ry⟩
    · rw [if_neg e, if_neg (fun z => e (h1.trans z))]; exact ⟨h1, h2⟩
theorem KV.put {kvs : List (κ × V)} {vs : List (κ × Value)} (r : KV kvs vs) (k : κ) {y : V} {u : Value} (ry : RelV y u) : KV (putK kvs k y) (stored vs k u) := by
  unfold putK stored
  rw [r.any k]
  by_cases e : (vs.any fun kv => decide (kv.1 = k)) = true
  · rw [if_pos e, if_pos e]; exact r.repl k ry
  · rw [if_neg e, if_neg e]; exact Paired.snoc r ⟨rfl, ry⟩
theorem KV.length {kvs : List (κ × V)} {vs : List (κ × Value)} (r : KV kvs vs) : kvs.length = vs.length := Paired.length r
end


/-! ### a tracked dict, its keys ints and texts or tuples of these -/
theorem kV_is {P : Program} {w : World} {k : Key} {u : Value} (r : RelV (kV k) u) : (mixKind P w).is k u = true := by
  cases k with
  | inl i => obtain ⟨t, e⟩ := (show ∃ t, u = Value.int i t from r); subst e; exact mixKind_int P w i t
  | inr x => obtain ⟨t, e⟩ := (show ∃ t, u = Value.str x t from r); subst e; exact mixKind_str P w x t
theorem items_are {P : Program} {w : World} : ∀ {ks : List Key} {us : List Value}, Vals (ks.map kV) us → ItemsAre (mixKind P w) ks us
  | [], _, r => by rw [List.map_nil] at r; cases r; exact .nil
  | k :: ks, _, r => by
    rw [List.map_cons] at r
    cases r with
    | cons h t => exact .cons (kV_is h) (items_are t)

/-- raw entries of a dict with tuple keys -/
abbrev KT (H : Hp) : List (List Key × V) → List (List Key × Addr × Value) → Prop := Paired fun p q => p.1 = q.1 ∧ H q.2.1 = some (.tup (p.1.map kV)) ∧ RelV p.2 q.2.2
theorem KT.val {H : Hp} {kvs : List (List Key × V)} {xs : List (List Key × Addr × Value)} (r : KT H kvs xs) (k : List Key) : RelO (valV kvs k) ((atKey xs k).map (·.2)) := by
  induction r with
  | nil => exact True.intro
  | @cons p q ps qs h t ih =>
    obtain ⟨h1, _, h2⟩ := h
    by_cases e : p.1 = k
    · have e' : q.1 = k := h1.symm.trans e
      have b : atKey (q :: qs) k = some q.2 := by simp [atKey, List.find?_cons, e']
      rw [valV_pos e, b]; exact h2
    · have e' : ¬ q.1 = k := fun z => e (h1.trans z)
      have b : atKey (q :: qs) k = atKey qs k := by simp [atKey, List.find?_cons, e']
      rw [valV_neg e, b]; exact ih
theorem KT.repl {H : Hp} {kvs : List (List Key × V)} {xs : List (List Key × Addr × Value)} (r : KT H kvs xs) (k : List Key) {y : V} {u : Value} (ry : RelV y u) :
    KT H (kvs.map fun kv => if kv.1 = k then (kv.1, y) else kv) (xs.map (putAt k u)) := by
  induction r with
  | nil => exact .nil
  | @cons p q ps qs h t ih =>
    rw [List.map_cons, List.map_cons]
    refine .cons ?_ ih
    obtain ⟨h1, h2, h3⟩ := h
    unfold putAt
    by_cases e : p.1 = k
    · rw [if_pos e, if_pos (h1.symm.trans e)]; exact ⟨h1, h2, ry⟩
    · rw [if_neg e, if_neg (fun z => e (h1.trans z))]; exact ⟨h1, h2, h3⟩
theorem KT.put {H : Hp} {kvs : List (List Key × V)} {xs : List (List Key × Addr × Value)} (r : KT H kvs xs) (k : List Key) {b : Addr} {y : V} {u : Value} (hb : H b = some (.tup (k.map kV))) (ry : RelV y u) :
    KT H (putK kvs k y) (storedH xs k b u) := by
  have e : (kvs.any fun kv => decide (kv.1 = k)) = (atKey xs k).isSome := by
    rw [valV_any, (r.val k).isSome_eq, Option.isSome_map]
  unfold putK storedH
  rw [e]
  by_cases q : (atKey xs k).isSome = true
  · rw [if_pos q, if_pos q]; exact r.repl k ry
  · rw [if_neg q, if_neg q]; exact Paired.snoc r ⟨rfl, hb, ry⟩
theorem KT.keeps {H H' : Hp} {kvs : List (List Key × V)} {xs : List (List Key × Addr × Value)} (r : KT H kvs xs) (ht : ∀ b ys, H b = some (.tup ys) → H' b = some (.tup ys)) : KT H' kvs xs :=
  Paired.mapP r fun _ _ z => ⟨z.1, ht _ _ z.2.1, z.2.2⟩

section
variable {P : Program} {w : World} {H : Hp} {h : Heap} {a : Addr}
theorem rd_of {u : HO} (ok : HOk P w H h) (e : Rd H a u) : ObjOk P w H h a u := e.ok ok
theorem dk_rd {kvs : List (Key × V)} (ok : HOk P w H h) (e : Rd H a (.dK kvs)) : kvs.length ≤ sizeLine ∧ (a == sysModules) = false ∧ ∃ vs, KV kvs vs ∧ h.DictOf (mixKind P w) a vs :=
  show ObjOk P w H h a (.dK kvs) from rd_of ok e
theorem dk_of {kvs : List (Key × V)} (ok : HOk P w H h) (e : H a = some (.dK kvs)) : kvs.length ≤ sizeLine ∧ (a == sysModules) = false ∧ ∃ vs, KV kvs vs ∧ h.DictOf (mixKind P w) a vs := dk_rd ok (.inl e)
/-- a tracked tuple of ints and texts is a key -/
theorem key_of {ks : List Key} (ok : HOk P w H h) (e : H a = some (.tup (ks.map kV))) : (tupleKind (mixKind P w)).is h ks a := by
  obtain ⟨_, its, r, o, h1, h2, n, h3⟩ := (show ObjOk P w H h a (.tup (ks.map kV)) from ok a _ e)
  exact ⟨o, its.toArray, n, h1, h2, h3, by simpa using items_are r⟩
theorem dt_rd {kvs : List (List Key × V)} (ok : HOk P w H h) (e : Rd H a (.dT kvs)) : kvs.length ≤ sizeLine ∧ (a == sysModules) = false ∧
    ∃ xs, KT H kvs xs ∧ h.DictOfH (tupleKind (mixKind P w)) a xs := by
  obtain ⟨z, y, xs, r, o, es, ep, h1, h2, h3, h4, h5⟩ := (show ObjOk P w H h a (.dT kvs) from rd_of ok e)
  refine ⟨z, y, xs, r, o, es, ep, h1, h2, h3, h4, fun x hx => ?_, h5⟩
  have all : ∀ {l : List (List Key × V)} {m : List (List Key × Addr × Value)}, KT H l m → ∀ x ∈ m, (tupleKind (mixKind P w)).is h x.1 x.2.1 := by
    intro l m q
    induction q with
    | nil => intro x hx; exact nomatch hx
    | @cons p q ps qs hq t ih =>
      intro x hx
      rcases List.mem_cons.mp hx with e | hx
      · subst e
        exact key_of ok (by rw [← hq.1]; exact hq.2.1)
      · exact ih x hx
  exact all r x hx
theorem dt_of {kvs : List (List Key × V)} (ok : HOk P w H h) (e : H a = some (.dT kvs)) : kvs.length ≤ sizeLine ∧ (a == sysModules) = false ∧
    ∃ xs, KT H kvs xs ∧ h.DictOfH (tupleKind (mixKind P w)) a xs := dt_rd ok (.inl e)
end

/-- what the dict at a holds at the key y -/
def DGet (H : Hp) (a : Addr) (y : V) (r : Option V) : Prop :=
  (∃ kvs k, Rd H a (.dK kvs) ∧ y = kV k ∧ r = valV kvs k) ∨ ∃ kvs k b, Rd H a (.dT kvs) ∧ y = .ref b ∧ H b = some (.tup (k.map kV)) ∧ r = valV kvs k
/-- the heap behind a[y] = v -/
def DPut (H : Hp) (a : Addr) (y v : V) (H' : Hp) : Prop :=
  (∃ kvs k, H a = some (.dK kvs) ∧ y = kV k ∧ kvs.length < sizeLine ∧ H' = upd H a (.dK (putK kvs k v))) ∨
  ∃ kvs k b, H a = some (.dT kvs) ∧ y = .ref b ∧ H b = some (.tup (k.map kV)) ∧ kvs.length < sizeLine ∧ H' = upd H a (.dT (putK kvs k v))
theorem DGet.k {H : Hp} {a : Addr} {kvs : List (Key × V)} {k : Key} (e : H a = some (.dK kvs)) : DGet H a (kV k) (valV kvs k) := .inl ⟨kvs, k, .inl e, rfl, rfl⟩
theorem DGet.t {H : Hp} {a b : Addr} {kvs : List (List Key × V)} {k : List Key} (e : H a = some (.dT kvs)) (eb : H b = some (.tup (k.map kV))) : DGet H a (.ref b) (valV kvs k) := .inr ⟨kvs, k, b, .inl e, rfl, eb, rfl⟩
theorem DPut.k {H : Hp} {a : Addr} {kvs : List (Key × V)} {k : Key} {v : V} (e : H a = some (.dK kvs)) (hl : kvs.length < sizeLine) : DPut H a (kV k) v (upd H a (.dK (putK kvs k v))) := .inl ⟨kvs, k, e, rfl, hl, rfl⟩
theorem DPut.t {H : Hp} {a b : Addr} {kvs : List (List Key × V)} {k : List Key} {v : V} (e : H a = some (.dT kvs)) (eb : H b = some (.tup (k.map kV))) (hl : kvs.length < sizeLine) :
    DPut H a (.ref b) v (upd H a (.dT (putK kvs k v))) := .inr ⟨kvs, k, b, e, rfl, eb, hl, rfl⟩


section
variable {X : Cx} {pins : List (Addr × Obj)} {σ : St} {H : Hp} {s : Shared} {a : Addr} {y v : V} {u r : Value} {o : Option V} {A : Around} {E : Value → Shared → Prop}

theorem Inv.big (I : Inv X pins σ H s) : sysModules < s.heap.objs.size := by
  have h : mainGlobals < s.heap.objs.size := (I.mod.glob.keeps I.bk).lt
  exact Nat.lt_trans (by decide) h

/-- d[y], there -/
theorem d_getItem {Q : Value → Shared → Prop} (hu : A.units + 1 < cLine) (I : Inv X pins σ H s) (g : DGet H a y (some v)) (ry : RelV y u) (h : ∀ w' s', Inv X pins σ H s' → RelV v w' → Q w' s') :
    wpAny (model X.prog X.w) A (getItem (.ref a) u) Q E s := by
  rcases g with ⟨kvs, k, e, ey, l⟩ | ⟨kvs, k, b, e, ey, eb, l⟩
  · subst ey
    obtain ⟨z, hd, vs, rel, dd⟩ := dk_rd I.hok e
    obtain ⟨w', hw, rw'⟩ := RelO.some_of (v := v) (o := valueAt vs k) (by rw [l]; exact rel.val k)
    exact wpAny_getItem_of (kV_is ry) dd.mapOf hw (h w' _ (I.tok _) rw')
  · subst ey
    cases (show u = Value.ref b from ry)
    obtain ⟨z, hd, xs, rel, dd⟩ := dt_rd I.hok e
    obtain ⟨w', hw, rw'⟩ := RelO.some_of (v := v) (o := (atKey xs k).map (·.2)) (by rw [l]; exact rel.val k)
    obtain ⟨p, hp, hp2⟩ := Option.map_eq_some_iff.mp hw
    refine wpAny_getItem_heap (tupleKind_room_in1 hu) (key_of I.hok eb) dd hp ?_
    rw [hp2]
    exact h w' _ (I.tok _) rw'
theorem d_notIn {Q : Value → Shared → Prop} (hu : A.units + 1 < cLine) (I : Inv X pins σ H s) (g : DGet H a y o) (ry : RelV y u) (h : ∀ s', Inv X pins σ H s' → Q (.bool (!o.isSome)) s') :
    wpAny (model X.prog X.w) A (compareOp .NotIn u (.ref a)) Q E s := by
  rcases g with ⟨kvs, k, e, ey, l⟩ | ⟨kvs, k, b, e, ey, eb, l⟩
  · subst ey
    obtain ⟨z, hd, vs, rel, dd⟩ := dk_rd I.hok e
    refine wpAny_notIn_of (kV_is ry) hd dd.mapOf ?_
    rw [← (rel.val k).isSome_eq, ← l]
    exact h _ (I.tok _)
  · subst ey
    cases (show u = Value.ref b from ry)
    obtain ⟨z, hd, xs, rel, dd⟩ := dt_rd I.hok e
    refine wpAny_notIn_heap (tupleKind_room_in1 hu) (key_of I.hok eb) hd dd ?_
    have q := (rel.val k).isSome_eq
    rw [Option.isSome_map] at q
    rw [← q, ← l]
    exact h _ (I.tok _)
/-- a dict's object is replaced -/
theorem d_write {h' : Heap} {t' : Nat} {ob : HO} (I : Inv X pins σ H s) (mu : Mut (H a)) (hs : Heap.SameBut a s.heap h') (he : ∃ q, h'.get? a = some q) (new : ObjOk X.prog X.w (upd H a ob) h' a ob) :
    Inv X pins σ (upd H a ob) { s with heap := h', toks := t' } :=
  I.write (x := a) (e := a) mu (.inl rfl) (fun b q hb z => (hs.2 b hb).trans z) he new
theorem dk_new {P : Program} {w : World} {H' : Hp} {h' : Heap} {kvs : List (Key × V)} {vs : List (Key × Value)} (z : kvs.length ≤ sizeLine) (hd : (a == sysModules) = false) (rel : KV kvs vs) (dd : h'.DictOf (mixKind P w) a vs) :
    ObjOk P w H' h' a (.dK kvs) := ⟨z, hd, vs, rel, dd⟩
/-- d[y] = v -/
theorem d_setItem {H' : Hp} {Q : Unit → Shared → Prop} (hu : A.units + 1 < cLine) (I : Inv X pins σ H s) (g : DPut H a y v H') (ry : RelV y u) (rv : RelV v r) (h : ∀ s', Inv X pins σ H' s' → Q () s') :
    wpAny (model X.prog X.w) A (setItem (.ref a) u r) Q E s := by
  rcases g with ⟨kvs, k, e, ey, l, eH⟩ | ⟨kvs, k, b, e, ey, eb, l, eH⟩
  · subst ey eH
    obtain ⟨z, hd, vs, rel, dd⟩ := dk_of I.hok e
    have hz : vs.length ≤ sizeLine := by rw [← rel.length]; exact z
    have hl : (putK kvs k v).length ≤ sizeLine := by have := length_putK kvs k v; omega
    refine wpAny_setItem_pairs (hsz := hz) (kV_is ry) dd fun h' dd' hs => h _ ?_
    have he : ∃ q, h'.get? a = some q := let ⟨q, _, _, hq, _⟩ := dd'; ⟨q, hq⟩
    exact d_write I (by rw [e]; exact True.intro) hs he (dk_new hl hd (rel.put k rv) dd')
  · subst ey eH
    cases (show u = Value.ref b from ry)
    obtain ⟨z, hd, xs, rel, dd⟩ := dt_of I.hok e
    have hz : xs.length ≤ sizeLine := by rw [← Paired.length rel]; exact z
    have hl : (putK kvs k v).length ≤ sizeLine := by have := length_putK kvs k v; omega
    refine wpAny_setItem_heap (hsz := hz) (tupleKind_room_in1 hu) (key_of I.hok eb) dd fun h' dd' hs => h _ ?_
    obtain ⟨q, es, ep, hq, h2, h3, h4, _, h5⟩ := dd'
    refine d_write I (by rw [e]; exact True.intro) hs ⟨q, hq⟩ ⟨hl, hd, _, (rel.put k eb rv).keeps fun c ys ec => ?_, q, es, ep, hq, h2, h3, h4, h5⟩
    rw [upd_ne (ne_of ec e (fun z => nomatch z))]
    exact ec
end

section
variable {X : Cx} {pins : List (Addr × Obj)} {σ : St} {H : Hp} {s : Shared} {a : Addr} {kvs : List (Key × V)} {k : Key} {u : Value} {A : Around} {E : Value → Shared → Prop}
end


/-! ### readings and rules -/
/-- the element of a subscription, not a slice -/
def NoSl (i : Expr) : Prop := ∀ ov iv, subscripted i false ov iv = operate [ov, iv] (getItem ov iv)
theorem subD_of {prog : Program} {w : World} {A : Around} {E : Value → Shared → Prop} {s : Shared} {env : Env} {value slice : Expr} {pos : Pos} {T id : String} {Q : Value → Shared → Prop}
    (hl : typeLookup (.type T) "__getitem__" = pure (some (.builtin id))) (hs : NoSl slice)
    (h : wpAny (model prog w) A (eval value env) (fun o s₁ => wpAny (model prog w) A (eval slice env) (fun i s₂ => s₂.TypeIs o T ∧ wpAny (model prog w) A (getItem o i) Q E s₂) E s₁) E s) :
    wpAny (model prog w) A (eval (.Subscript value slice pos) env) Q E s := by
  refine Subscript_ (wpAny_mono h (fun o s₁ h₁ => wpAny_mono h₁ (fun i s₂ h₂ => ?_) fun _ _ x => x) fun _ _ x => x)
  obtain ⟨hT, h₂⟩ := h₂
  unfold subscriptTail
  refine wpAny_bind ?_
  rw [getitemInPython_of_ne hT.not_modules]
  refine wpAny_bind (wpAny_specialOf hT hl ?_)
  have fin : wpAny (model prog w) A (subscripted slice false o i) (fun r s₃ => wpAny (model prog w) A (letTemporaryGo value o r >>= fun _ => pure r) Q E s₃) E s₂ := by
    rw [hs o i]
    exact wpAny_operating (wpAny_mono h₂ (fun r s₃ h₃ => wpAny_bind (wpAny_letTemporaryGo (wpAny_pure h₃))) fun _ _ x => x)
  first
    | exact wpAny_pure (wpAny_bind fin)
    | exact wpAny_bind (wpAny_pure (wpAny_bind fin))
    | exact wpAny_bind fin

theorem dict_typeIs {X : Cx} {pins : List (Addr × Obj)} {σ : St} {H : Hp} {s : Shared} {a : Addr} {y : V} {o : Option V} (I : Inv X pins σ H s) (g : DGet H a y o) : s.TypeIs (.ref a) "dict" := by
  rcases g with ⟨kvs, k, e, _, _⟩ | ⟨kvs, k, b, e, _, _, _⟩
  · obtain ⟨_, _, vs, _, dd⟩ := dk_rd I.hok e
    exact dd.typeIs
  · obtain ⟨_, _, xs, _, dd⟩ := dt_rd I.hok e
    exact dd.typeIs
/-- d[y] -/
def tDGet (td ty : TE) : TE := fun σ H Q => td σ H fun x H1 => ty σ H1 fun y H2 => ∃ a v, x = .ref a ∧ DGet H2 a y (some v) ∧ Q v H2
def tDNotIn (ty td : TE) : TE := fun σ H Q => ty σ H fun y H1 => td σ H1 fun x H2 => ∃ a o, x = .ref a ∧ DGet H2 a y o ∧ Q (.bl (!o.isSome)) H2
/-- d[y] = v -/
def sDPut (td ty tv : TE) : TS := fun D σ H => tv σ H fun v H1 => td σ H1 fun x H2 => ty σ H2 fun y H3 => ∃ a H4, x = .ref a ∧ DPut H3 a y v H4 ∧ D.nx σ H4
section
variable {X : Cx} {o i e value : Expr} {pos pos' tpos : Pos} {td ty tv : TE}
theorem pe_dget (hu : X.A.units + 1 < cLine) (ho : PE X o td) (hi : PE X i ty) (hs : NoSl i) : PE X (.Subscript o i pos) (tDGet td ty) := by
  intro pins s σ H Q I h
  refine subD_of PySem.F.slot_dict_getitem.lookup hs (thn (ho pins s σ H _ I h) fun u s1 ⟨x, H1, I1, rx, q1⟩ => thn (hi pins s1 σ H1 _ I1 q1) fun iv s2 ⟨y, H2, I2, ry, a, v, ex, g, q2⟩ => ?_)
  subst ex
  obtain rfl : u = Value.ref a := rx
  exact ⟨dict_typeIs I2 g, d_getItem hu I2 g ry fun w' s3 I3 rw' => ⟨v, H2, I3, rw', q2⟩⟩
theorem pc_dnotin (hu : X.A.units + 1 < cLine) (hi : PE X i ty) (ho : PE X o td) : PC X .NotIn i o (tDNotIn ty td) := by
  intro pins s σ H Q I h
  refine thn (hi pins s σ H _ I h) fun iv s1 ⟨y, H1, I1, ry, q1⟩ => thn (ho pins s1 σ H1 _ I1 q1) fun u s2 ⟨x, H2, I2, rx, a, ov, ex, g, q2⟩ => ?_
  subst ex
  obtain rfl : u = Value.ref a := rx
  exact d_notIn hu I2 g ry fun s3 I3 => ⟨.bl (!ov.isSome), H2, I3, rfl, q2⟩
theorem ps_dput (hu : X.A.units + 1 < cLine) (ho : PE X o td) (hi : PE X i ty) (hv : PE X value tv) (hs : swapsWith value (some (.Subscript o i pos')) pos.line X.env = pure false) :
    PS X (.Assign [.Subscript o i pos'] value pos) (sDPut td ty tv) := by
  intro pins s σ H D I h
  refine wpAny_Assign_Subscript (thn (hv pins s σ H _ I h) fun r s1 ⟨v, H1, I1, rv, q1⟩ => thn (ho pins s1 σ H1 _ I1 q1) fun u s2 ⟨x, H2, I2, rx, q2⟩ => thn (hi pins s2 σ H2 _ I2 q2) fun iv s3 ⟨y, H3, I3, ry, a, H4, ex, g, q3⟩ => ?_) hs
  subst ex
  obtain rfl : u = Value.ref a := rx
  exact d_setItem hu I3 g ry rv fun s4 I4 => ⟨σ, H4, I4, q3⟩
end


/-! ### displays -/
theorem dk_empty {P : Program} {w : World} {H : Hp} (h : Heap) (hb : sysModules < h.objs.size) : ObjOk P w H (h.push { cls := .type "dict", data := .dict #[] }) h.objs.size (.dK []) :=
  ⟨Nat.zero_le _, beq_eq_false_iff_ne.mpr (Ne.symm (Nat.ne_of_lt hb)), [], .nil, Heap.DictOf.new h⟩
theorem dt_empty {P : Program} {w : World} {H : Hp} (h : Heap) (hb : sysModules < h.objs.size) : ObjOk P w H (h.push { cls := .type "dict", data := .dict #[] }) h.objs.size (.dT []) :=
  ⟨Nat.zero_le _, beq_eq_false_iff_ne.mpr (Ne.symm (Nat.ne_of_lt hb)), [], .nil, _, #[], 0, Heap.get?_push_size _ rfl, ⟨rfl, rfl, rfl⟩, rfl, rfl, List.nodup_nil⟩
/-- {}, to be a dict of the kind that is wanted -/
def tDNewK : TE := fun _ H Q => ∀ p, H p = none → Q (.ref p) (upd H p (.dK []))
def tDNewT : TE := fun _ H Q => ∀ p, H p = none → Q (.ref p) (upd H p (.dT []))
section
variable {X : Cx} {pos : Pos}
theorem pe_dnewK : PE X (.Dict [] [] pos) tDNewK := fun pins s σ H Q I h =>
  wpAny_Dict_empty ⟨.ref s.heap.objs.size, _, I.laid (a := s.heap.objs.size) (o := .dK []) (t' := s.toks) (fun _ _ q => Heap.get?_push_of_some _ q) (Nat.le_refl _) (dk_empty s.heap I.big), rfl, h _ (I.hok.fresh (Nat.le_refl _))⟩
theorem pe_dnewT : PE X (.Dict [] [] pos) tDNewT := fun pins s σ H Q I h =>
  wpAny_Dict_empty ⟨.ref s.heap.objs.size, _, I.laid (a := s.heap.objs.size) (o := .dT []) (t' := s.toks) (fun _ _ q => Heap.get?_push_of_some _ q) (Nat.le_refl _) (dt_empty s.heap I.big), rfl, h _ (I.hok.fresh (Nat.le_refl _))⟩
end

/-! ### methods -/
/-- a method call o.m(e) of a built-in, with one argument: what must be seen of the text -/
structure M1 (X : Cx) (o : Expr) (m : Str) (apos : Pos) (e : Expr) (cpos : Pos) : Prop where
  base : attributeBase o m X.env (eval o X.env) = eval o X.env
  few : ((backTo cpos (starEach [e] X.env)).all (fun x => !x.1) && (backToKw cpos (keywordEach [] X.env)).all (fun x => x.1.isSome)
    && decide (([e] : List Expr).length + ([] : List Keyword).length + (if ([] : List Keyword).isEmpty then 0 else 1) < 30)) = true
  line : (apos.endLine == cpos.line) = true
  trees : backTo cpos (starEach [e] X.env) = [(false, eval e X.env)]
structure M2 (X : Cx) (o : Expr) (m : Str) (apos : Pos) (e f : Expr) (cpos : Pos) : Prop where
  base : attributeBase o m X.env (eval o X.env) = eval o X.env
  few : ((backTo cpos (starEach [e, f] X.env)).all (fun x => !x.1) && (backToKw cpos (keywordEach [] X.env)).all (fun x => x.1.isSome)
    && decide (([e, f] : List Expr).length + ([] : List Keyword).length + (if ([] : List Keyword).isEmpty then 0 else 1) < 30)) = true
  line : (apos.endLine == cpos.line) = true
  trees : backTo cpos (starEach [e, f] X.env) = [(false, eval e X.env), (false, eval f X.env)]

/-- a is a dict, whatever its keys -/
def IsD (H : Hp) (a : Addr) : Prop := (∃ kvs, Rd H a (.dK kvs)) ∨ ∃ kvs, Rd H a (.dT kvs)
theorem isD_at {X : Cx} {pins : List (Addr × Obj)} {σ : St} {H : Hp} {s : Shared} {a : Addr} (I : Inv X pins σ H s) (d : IsD H a) :
    s.TypeIs (.ref a) "dict" ∧ (∀ b, Value.ref a = .ref b → ∃ ob, s.heap.get? b = some ob ∧ ob.dict = none) ∧ (a == sysModules) = false := by
  rcases d with ⟨kvs, e⟩ | ⟨kvs, e⟩
  · obtain ⟨_, hd, vs, _, dd⟩ := dk_rd I.hok e
    refine ⟨dd.typeIs, fun b q => ?_, hd⟩
    cases q
    obtain ⟨ob, _, _, h1, h2, _⟩ := dd
    exact ⟨ob, h1, h2.2.1⟩
  · obtain ⟨_, hd, xs, _, dd⟩ := dt_rd I.hok e
    refine ⟨dd.typeIs, fun b q => ?_, hd⟩
    cases q
    obtain ⟨ob, _, _, h1, h2, _⟩ := dd
    exact ⟨ob, h1, h2.2.1⟩

section
variable {X : Cx} {pins : List (Addr × Obj)} {σ : St} {H : Hp} {s : Shared} {a : Addr} {y d : V} {u r : Value} {o : Option V} {A : Around} {E : Value → Shared → Prop}
/-- d.get(y) -/
theorem d_get1 {Q : Value → Shared → Prop} (hu : A.units + 1 < cLine) (I : Inv X pins σ H s) (g : DGet H a y o) (ry : RelV y u) (h : ∀ w' s', Inv X pins σ H s' → RelV (o.getD .non) w' → Q w' s') :
    wpAny (model X.prog X.w) A (call (.builtin "dict.get") [.ref a, u]) Q E s := by
  rcases g with ⟨kvs, k, e, ey, l⟩ | ⟨kvs, k, b, e, ey, eb, l⟩
  · subst ey
    obtain ⟨z, hd, vs, rel, dd⟩ := dk_rd I.hok e
    refine call_meetsIn PySem.F.slot_dict_get dd.typeIs PySem.F.entry_dict_get (PySem.F.args_dict_get_2 _ _) (meets_dict_get (mixKind X.prog X.w) a (kV_is ry) hd) ⟨_, dd.mapOf, h _ _ (I.tok _) ?_⟩
    rw [l]
    exact (rel.val k).getD rfl
  · subst ey
    cases (show u = Value.ref b from ry)
    obtain ⟨z, hd, xs, rel, dd⟩ := dt_rd I.hok e
    refine call_meetsIn PySem.F.slot_dict_get dd.typeIs PySem.F.entry_dict_get (PySem.F.args_dict_get_2 _ _) (meetsH_dict_get (tupleKind (mixKind X.prog X.w)) a b hd) ⟨tupleKind_room_in1 hu, k, xs, key_of I.hok eb, dd, h _ _ (I.tok _) ?_⟩
    rw [l]
    exact (rel.val k).getD rfl
/-- d.get(y, x) -/
theorem d_get2 {Q : Value → Shared → Prop} (hu : A.units + 1 < cLine) (I : Inv X pins σ H s) (g : DGet H a y o) (ry : RelV y u) (rd : RelV d r) (h : ∀ w' s', Inv X pins σ H s' → RelV (o.getD d) w' → Q w' s') :
    wpAny (model X.prog X.w) A (call (.builtin "dict.get") [.ref a, u, r]) Q E s := by
  rcases g with ⟨kvs, k, e, ey, l⟩ | ⟨kvs, k, b, e, ey, eb, l⟩
  · subst ey
    obtain ⟨z, hd, vs, rel, dd⟩ := dk_rd I.hok e
    refine call_meetsIn PySem.F.slot_dict_get dd.typeIs PySem.F.entry_dict_get (PySem.F.args_dict_get_3 _ _ _) (meets_dict_get_default (mixKind X.prog X.w) a (kV_is ry) hd r) ⟨_, dd.mapOf, h _ _ (I.tok _) ?_⟩
    rw [l]
    exact (rel.val k).getD rd
  · subst ey
    cases (show u = Value.ref b from ry)
    obtain ⟨z, hd, xs, rel, dd⟩ := dt_rd I.hok e
    refine call_meetsIn PySem.F.slot_dict_get dd.typeIs PySem.F.entry_dict_get (PySem.F.args_dict_get_3 _ _ _) (meetsH_dict_get_default (tupleKind (mixKind X.prog X.w)) a b hd r) ⟨tupleKind_room_in1 hu, k, xs, key_of I.hok eb, dd, h _ _ (I.tok _) ?_⟩
    rw [l]
    exact (rel.val k).getD rd
end

def tDGet1 (td ty : TE) : TE := fun σ H Q => td σ H fun x H1 => ∃ a, x = .ref a ∧ IsD H1 a ∧ ty σ H1 fun y H2 => ∃ o, DGet H2 a y o ∧ Q (o.getD .non) H2
def tDGet2 (td ty tx : TE) : TE := fun σ H Q => td σ H fun x H1 => ∃ a, x = .ref a ∧ IsD H1 a ∧ ty σ H1 fun y H2 => tx σ H2 fun z H3 => ∃ o, DGet H3 a y o ∧ Q (o.getD z) H3
section
variable {X : Cx} {o e f : Expr} {apos cpos : Pos} {td ty tx : TE}
theorem pe_dget1 (hu : X.A.units + 1 < cLine) (ho : PE X o td) (he : PE X e ty) (m : M1 X o "get" apos e cpos) : PE X (.Call (.Attribute o "get" apos) [e] [] cpos) (tDGet1 td ty) := by
  intro pins s σ H Q I h
  refine wpAny_Call_method m.base m.few m.line PySem.F.plainAttrs_dict PySem.F.slot_dict_get PySem.F.type_dict_get (thn (ho pins s σ H _ I h) fun u s1 ⟨x, H1, I1, rx, a, ex, d, q1⟩ => ?_)
  subst ex
  obtain rfl : u = Value.ref a := rx
  obtain ⟨t1, t2, _⟩ := isD_at I1 d
  refine ⟨t1, t2, ?_⟩
  rw [m.trees]
  refine Calls.callWith_builtin rfl (Calls.evalArgs_plain (Calls.spliced_cons (thn (he pins s1 σ H1 _ I1 q1) fun iv s2 ⟨y, H2, I2, ry, ov, g, q2⟩ => Calls.spliced_nil ?_)))
  exact d_get1 hu I2 g ry fun w' s3 I3 rw' => ⟨_, H2, I3, rw', q2⟩
theorem pe_dget2 (hu : X.A.units + 1 < cLine) (ho : PE X o td) (he : PE X e ty) (hf : PE X f tx) (m : M2 X o "get" apos e f cpos) : PE X (.Call (.Attribute o "get" apos) [e, f] [] cpos) (tDGet2 td ty tx) := by
  intro pins s σ H Q I h
  refine wpAny_Call_method m.base m.few m.line PySem.F.plainAttrs_dict PySem.F.slot_dict_get PySem.F.type_dict_get (thn (ho pins s σ H _ I h) fun u s1 ⟨x, H1, I1, rx, a, ex, d, q1⟩ => ?_)
  subst ex
  obtain rfl : u = Value.ref a := rx
  obtain ⟨t1, t2, _⟩ := isD_at I1 d
  refine ⟨t1, t2, ?_⟩
  rw [m.trees]
  refine Calls.callWith_builtin rfl (Calls.evalArgs_plain (Calls.spliced_cons (thn (he pins s1 σ H1 _ I1 q1) fun iv s2 ⟨y, H2, I2, ry, q2⟩ =>
    Calls.spliced_cons (thn (hf pins s2 σ H2 _ I2 q2) fun fv s3 ⟨z, H3, I3, rz, ov, g, q3⟩ => Calls.spliced_nil ?_))))
  exact d_get2 hu I3 g ry rz fun w' s4 I4 rw' => ⟨_, H3, I4, rw', q3⟩
end

/-! ### dict(d): a copy -/
section
variable {X : Cx} {pins : List (Addr × Obj)} {σ : St} {H : Hp} {s : Shared} {a : Addr} {kvs : List (Key × V)} {A : Around} {E : Value → Shared → Prop}
end


section
variable {X : Cx} {pins : List (Addr × Obj)} {σ : St} {H : Hp} {s : Shared} {a : Addr} {y : V} {u : Value} {A : Around} {E : Value → Shared → Prop}
end
end L2

namespace Att
open PySem PySem.W PySem.Calls PyProof.Rows

/-! ### the script -/
theorem ints_of_wellAll {P : Params} {h : Heap} : ∀ (ns : List Int) (vs : List Value), WellAll P h vs (ns.map WData.int) → IntsAre vs ns := by
  intro ns
  induction ns with
  | nil =>
    intro vs w
    rw [List.map_nil] at w
    cases w
    exact .nil
  | cons n ns ih =>
    intro vs w
    rw [List.map_cons] at w
    cases w with
    | cons a b =>
      cases a
      exact .cons _ _ (ih _ b)

theorem script_of {l : OpenLaw} {n : Nat} (hn : l.most = some n) {P : Params} {h : Heap} {args : List WData} {vals : List Value}
    (hpre : l.row.toRowW.claim.pre args = true) (hwl : WellAll P h vals args) :
    ∃ a vs ns, vals = [Value.ref a] ∧ args = [WData.list (ns.map WData.int)] ∧ h.get? a = some { cls := .type "list", data := .seq vs.toArray } ∧ IntsAre vs ns ∧ ns.length ≤ n := by
  have hsh : WShape.hasAll [] args [.list .int] = true := (pre_splitW hpre).1
  have hc : l.pre.holds [] { args := args } = true := (pre_splitW hpre).2
  obtain ⟨d, r, rfl, h1, h2⟩ := hasAllW_cons hsh
  obtain rfl := hasAllW_nil h2
  obtain ⟨xs, rfl, h3⟩ := hasW_list h1
  obtain ⟨ns, rfl⟩ := items_int h3
  have hlen : ns.length ≤ n := by
    unfold OpenLaw.pre at hc
    have h4 : (WTm.not (.lt (.lit (.int (n : Int))) (.len (.arg 0)))).holds [] { args := [.list (ns.map .int)] } = true := by
      have h4 := (holds_andW hc).1
      rw [hn] at h4
      exact h4
    have h5 := condW_of h4 (w_not (w_lt w_lit (w_len_list (w_arg rfl))))
    rw [List.length_map] at h5
    refine Nat.le_of_not_lt fun q => ?_
    have q' : (n : Int) < ((ns.length : Nat) : Int) := by omega
    first
      | (rw [decide_eq_true q'] at h5; exact absurd h5 (by decide))
      | (simp at h5; omega)
  cases hwl with
  | cons w1 w2 =>
    cases w2
    cases w1 with
    | list ho hall => exact ⟨_, _, ns, rfl, rfl, ho, ints_of_wellAll ns _ hall, hlen⟩

theorem post_true (l : OpenLaw) (args : List WData) : l.row.toRowW.claim.post args (.bool true) args = true :=
  postW_of (r := l.row.toRowW) (X := (true == true))
    (show WShape.has [] (.bool true) .bool = true by first | rfl | decide | simp [WShape.has, WShape.arms, WShape.armsAll])
    (show (WTm.eq .res (.lit (.bool true))).value [] { args := args, res := some (.bool true), after := args } = some (.bool (true == true)) from w_eq_bool (w_res rfl) w_lit) rfl

/-! ### the attachment: holds_open's last premise (the goal 'hc' behind k_head) from a wpAny of the law's body -/
/-- the same from a codeAny of the CALL (for a layer whose function contracts speak of calls) -/
theorem attach_call {l : OpenLaw} {n : Nat} {q : Program} {loose : List Str} {XP : (Str → Option Value) → Heap → Prop} {YP : World → Heap → Prop} {d : DefRec}
    (hn : l.most = some n) (hdf : d.params.defaults = [])
    (call : ∀ (w : World) (s₀ s₁ : Shared) (mg mb : Str → Option Value) (fa : Addr) (o : Obj) (pm cd doc : Value) (a : Addr) (vs : List Value) (ns : List Int),
      Ground q loose [] XP w s₀ mg mb s₁.heap → YP w s₁.heap →
      s₁.heap.get? fa = some o → o.data = .func (docDef d.name d.params d.body d.scope pm cd doc) → s₁.heap.CodeRec cd d.name → mg d.name = some (.ref fa) →
      s₁.heap.get? a = some { cls := .type "list", data := .seq vs.toArray } → IntsAre vs ns → ns.length ≤ n → s₁.gens = #[] →
      codeAny (model l.prog w) callerA (.call (.ref fa) ⟨[.ref a], []⟩) (fun r s' => r = .ok (.ret (.bool true)) ∧ OldK s₁.heap s'.heap ∧ s'.os = s₁.os ∧ AllBare s'.gens) s₁) :
    WalkO q loose XP YP l.row.toRowW d [] (fun f vs => PySem.call f vs) := by
  intro w s₀ s₁ mg mb G Y fa o pm cd doc dV kV ho hd hcd hD hmg hg args vals as hpre hlay hrd hwl hlo
  obtain rfl : dV = .none := Dflts.none hD hdf
  obtain rfl : kV = .none := Dflts.noKw hD
  obtain ⟨a, vs, ns, rfl, rfl, hobj, hints, hlen⟩ := script_of hn hpre hwl
  refine enter_call (codeAny_mono (call w s₀ s₁ mg mb fa o pm cd doc a vs ns G Y ho (fd_plain hd) hcd hmg hobj hints hlen hg) fun r s' hq => ?_)
  obtain ⟨rfl, h2, h3, h4⟩ := hq
  exact ⟨.inl ⟨.bool true, .bool true, [], rfl, fun _ => rfl, .bool true, post_true l _, fun _ => ⟨List.Pairwise.nil, fun _ hm => (nomatch hm)⟩⟩, h2, h3, h4⟩

/-! ### rules over ANY heap (no ledger) from facts about the written part K: the library's own take a ledger (News) for what they write -/
section
variable {prog : Program} {w : World} {A : Around} {E : Value → Shared → Prop} {s : Shared} {K : Frag}

/-! the whole heap as the ledger: makes every rule that writes through a ledger a rule over any heap -/
def ledger (h : Heap) (L d : Addr) : List (Addr × Obj) := (List.range h.objs.size).filterMap fun a => if a = L ∨ a = d then none else (h.get? a).map fun o => (a, o)
end
end Att

namespace L2
open PySem PySem.Spec PyProof.Rows

theorem vals_ints {vs : List Value} {ns : List Int} (h : IntsAre vs ns) : Vals (ns.map V.int) vs := by
  induction h with
  | nil => exact .nil
  | cons n t h ih => exact .cons ⟨t, rfl⟩ ih

/-- nothing is tracked but the script, known to the object (or it is an object of the module) -/
def Only (H : Hp) : Prop := ∀ b, H b = none ∨ ∃ o xs, H b = some (.frz o (.lst xs))

/-- THE HEAD: the law's promise, at the heap behind the top. F, the promise of the law's def, may use that base is part of the heap (so K.In base, base.Ns mainGlobals mg stand in Mod) -/
theorem law_call {P : Program} {w : World} {K : PySem.W.Frag} {mg mb : Str → Option Value} {CX : CXT} {k : Nat} {fa a : Addr} {fd : FuncData} {x : Str} {sp : Sp} {s₁ : Shared} {vs : List Value} {ns : List Int}
    (KX : K.In s₁.heap) (hns : s₁.heap.Ns mainGlobals mg) (hb : s₁.heap.Ns builtinsNs mb) (hbb : ∀ x : Str, x ≠ "__name__" → mb x = bootBuiltins x) (hlim : s₁.heap.NoLimit) (hg : s₁.gens = #[])
    (ha : s₁.heap.get? a = some { cls := .type "list", data := .seq vs.toArray }) (hi : IntsAre vs ns) (hl : ns.length ≤ sizeLine) (hr : Room k callerA)
    (F : ∀ base : Heap, K.In base → base.Ns mainGlobals mg → FnOk P w K mg base CX k fa fd [x] sp) (hbind : ∀ (s : Shared) (u : Value), BindsTo s fd ⟨[u], []⟩ [(x, u)])
    (hsp : ∀ H : Hp, Only H → SqL K H a (ns.map V.int) → sp [.ref a] H (fun v _ => v = .bl true) fun _ _ _ => False)
    (hCX : ∀ H e s', CX [] H s₁ (fun _ _ _ => False) e s' → False) :
    codeAny (model P w) callerA (.call (.ref fa) ⟨[.ref a], []⟩) (fun r s' => r = .ok (.ret (.bool true)) ∧ OldK s₁.heap s'.heap ∧ s'.os = s₁.os ∧ AllBare s'.gens) s₁ := by
  have rv := vals_ints hi
  have lenV := hi.length
  -- from an abstract heap in which nothing but the script may be tracked
  have core : ∀ H : Hp, Only H → SqL K H a (ns.map V.int) → HOk P w H s₁.heap → (∀ b, H b ≠ none → b = a) → (H a ≠ none → K.lookup a = none) →
      codeAny (model P w) callerA (.call (.ref fa) ⟨[.ref a], []⟩) (fun r s' => r = .ok (.ret (.bool true)) ∧ OldK s₁.heap s'.heap ∧ s'.os = s₁.os ∧ AllBare s'.gens) s₁ := by
    intro H hO hS hok hA hK
    have base_of : ∀ {b : Addr} {o : Obj}, s₁.heap.get? b = some o → H b = none → (hidT s₁.heap H).get? b = some o := fun e n => hidT_get e n
    have noA : ∀ {b : Addr} {o : Obj} {es : Array DictEntry} {ep : Nat}, s₁.heap.get? b = some o → o.data = .dict es ep → H b = none := fun {b o es ep} e d => by
      cases q : H b with
      | none => rfl
      | some u =>
        have e' : b = a := hA b (by rw [q]; simp)
        subst e'
        rw [ha] at e; cases e
        have d' : Data.seq vs.toArray _ = Data.dict es ep := d
        cases d'
    have nsK : ∀ {b : Addr} {m : Str → Option Value}, s₁.heap.Ns b m → (hidT s₁.heap H).Ns b m := fun {b m} ⟨o, es, ep, e, d, r⟩ => ⟨o, es, ep, base_of e (noA e d), d, r⟩
    have hKb : K.In (hidT s₁.heap H) := fun b o e => base_of (KX b o e) (by
      cases q : H b with
      | none => rfl
      | some u =>
        have e' : b = a := hA b (by rw [q]; simp)
        subst e'
        rw [hK (by rw [q]; simp)] at e; cases e)
    have hM : Mod K mg (hidT s₁.heap H) := ⟨hKb, nsK hns, ⟨mb, nsK hb, hbb⟩, let ⟨mc, h1, h2⟩ := hlim; ⟨mc, nsK h1, h2⟩⟩
    have e0 : Env0 P w K mg (hidT s₁.heap H) callerA [] s₁ H := ⟨rfl, hM, fun b o e => of_hidT e, Nat.le_of_eq (hidT_size _ _), trivial, fun b hb => absurd (show b ∈ ([] : List Addr) from hb) (by simp), hok, .of_eq hg⟩
    refine codeAny_mono ((F _ hKb (nsK hns)).run callerA [] s₁ H ⟨[.ref a], []⟩ [.ref a] [.ref a] _ _ hr e0 (hbind s₁ (.ref a)) (.cons rfl .nil) (hsp H hO hS)) fun r s' h => ?_
    cases r with
    | error e => exact (hCX H e s' h).elim
    | ok fl =>
      cases fl with
      | next => exact False.elim h
      | brk => exact False.elim h
      | cont => exact False.elim h
      | ret u =>
        obtain ⟨v, H', os, bare, un, hok', r', q⟩ := h
        have q' : v = .bl true := q
        subst q'
        obtain rfl : u = Value.bool true := r'
        refine ⟨rfl, OldK.of_keep fun b o e => ?_, os, bare⟩
        cases q : H b with
        | none => exact un.keep b o e q (by intro z; exact absurd (show b ∈ ([] : List Addr) from z) (by simp)) (by simp)
        | some u =>
          rcases hO b with z | ⟨ob, xs, z⟩
          · rw [q] at z; cases z
          · have z2 := un.frzs b ob _ z
            obtain ⟨e1, _⟩ := hok b _ z
            obtain ⟨e2, _⟩ := hok' b _ z2
            rw [e] at e1; cases e1
            exact e2
  cases hk : K.lookup a with
  | some o =>
    -- the script is one of the module's own objects
    have e := KX a o hk
    rw [ha] at e
    cases e
    refine core (fun _ => none) (fun _ => .inl rfl) (.inr ⟨_, vs.toArray, _, hk, rfl, rfl, rfl, by rw [List.size_toArray, lenV]; exact hl, by simpa using rv⟩) (fun b u z => by have z' : (none : Option HO) = some u := z; cases z') (fun b z => absurd rfl z) fun z => absurd rfl z
  | none =>
    refine core (fun b => if b = a then some (.frz { cls := .type "list", data := .seq vs.toArray } (.lst (ns.map V.int))) else none) (fun b => ?_) (.inl (.inr ⟨{ cls := .type "list", data := .seq vs.toArray }, if_pos rfl⟩)) (fun b u z => ?_) (fun b z => ?_) fun _ => hk
    · by_cases hb : b = a
      · exact .inr ⟨_, _, if_pos hb⟩
      · exact .inl (if_neg hb)
    · by_cases hb : b = a
      · have z' := (if_pos hb).symm.trans z
        cases z'
        subst hb
        exact ⟨ha, by rw [List.length_map]; exact hl, vs, _, rv, ha⟩
      · have z' := (if_neg hb).symm.trans z
        cases z'
    · by_cases hb : b = a
      · exact hb
      · exact absurd (if_neg hb) z
end L2

namespace L2
open PySem PySem.Spec PyProof.Rows

abbrev KOf {K : PySem.W.Frag} {h : Heap} (_ : K.In h) : PySem.W.Frag := K

/-- the goal that k_head leaves (case hc), from the law's promise. F gives the function object fd (K's own) once, then the promise over every base -/
theorem walk_of {l : PySem.W.OpenLaw} {n k : Nat} {q : Program} {loose : List Str} {XP : (Str → Option Value) → Heap → Prop} {YP : World → Heap → Prop} {d : DefRec} {K : Params → PySem.W.Frag} {CX : World → CXT} {sp : World → Sp} {x : Str}
    (hn : l.most = some n) (hn2 : n ≤ sizeLine) (hdf : d.params.defaults = []) (hr : Room k callerA)
    (hY : ∀ (w : World) (h : Heap), YP w h → (K w.params).In h)
    (F : ∀ (w : World) (mg : Str → Option Value) (fa : Addr) (h : Heap), (K w.params).In h → h.Ns mainGlobals mg → mg d.name = some (.ref fa) →
      ∃ fd : FuncData, (∀ (s : Shared) (u : Value), BindsTo s fd ⟨[u], []⟩ [(x, u)]) ∧
        ∀ base : Heap, (K w.params).In base → base.Ns mainGlobals mg → FnOk l.prog w (K w.params) mg base (CX w) k fa fd [x] (sp w))
    (hsp : ∀ (w : World) (H : Hp) (a : Addr) (ns : List Int), ns.length ≤ n → Only H → SqL (K w.params) H a (ns.map V.int) → sp w [.ref a] H (fun v _ => v = .bl true) fun _ _ _ => False)
    (hCX : ∀ (w : World) (H : Hp) (s : Shared) (e : Value) (s' : Shared), CX w [] H s (fun _ _ _ => False) e s' → False) :
    PySem.W.WalkO q loose XP YP l.row.toRowW d [] (fun f vs => PySem.call f vs) := by
  refine Att.attach_call hn hdf fun w s₀ s₁ mg mb fa o pm cd doc a vs ns G Y ho hd hcd hmg hobj hints hlen hg => ?_
  have KX := hY w _ Y
  obtain ⟨fd, hb, hF⟩ := F w mg fa _ KX G.T.g hmg
  exact law_call KX G.T.g G.T.b G.T.builtins G.T.nolimit hg hobj hints (Nat.le_trans hlen hn2) hr hF hb (fun H hO hS => hsp w H a ns hlen hO hS) fun H e s' => hCX w H s₁ e s'
end L2

/- THE LAST THEOREM (shape; LID, My.* are yours):
   My.Adr: a structure of the addresses that your layer names (classes, functions); My.Txt K t: a structure (Prop) of the equations over K;
   My.txt_mk : {K} {implicit addresses ..} (e1 : nsIn K mainGlobals "law" = some (some (.ref f))) (e2 : K.lookup f = some ⟨oc, od, .func (fnOf "law" "law" params body scope dV kV doc pm an cdv ct), sl⟩) (e3 : codeIn K cdv "law" = true) .. : ∃ t, My.Txt K t

set_option maxRecDepth 100000 in
set_option maxHeartbeats 0 in
theorem PySem.Challenge.cw_LID_holds : PySem.Challenge.rw_LID.Holds := by
  w_on; o_law; k_head; (case hw => w_witness2)
  k_fill
  refine L2.walk_of (l := PySem.Challenge.rw_LID) (n := 63) (k := 40) (x := "script") (CX := fun w => ..) (sp := fun _ => My.sp_law) rfl (by decide) rfl ⟨rfl, by decide, by decide⟩ (fun w h Y => PySem.W.kIn_of Y) ?F ?S ?C
  case F =>
    intro w mg fa h KX G hmg
    have T : ∃ t, My.Txt (L2.KOf KX) t := by
      dsimp only [L2.KOf]                          -- K must stand as «<heap const> w.params» for k_is
      refine' My.txt_mk ?e1 ?e2 ?e3 ..
      (case e1 => PySem.W.k_is)                    -- in the order: a name -> its address -> its object -> its parts
      (case e2 => PySem.W.k_is)
      ..
    obtain ⟨t, T⟩ := T
    have e0 := hmg.symm.trans (PySem.W.mg_of KX G T.law)
    cases e0                                       -- fa is the law's own address
    exact ⟨_, fun s u => .of_eq rfl, fun base kb nb => My.law_fn T kb nb⟩     -- if «.of_eq rfl» comes too early: refine' ⟨_, ?b, fun base kb nb => My.law_fn T kb nb⟩; exact fun s u => .of_eq rfl
  case S => exact fun w H a ns hl hO hS => ..
  case C => exact ..
(the tactic k_is has no namespace: write k_is) -/

/-! SHORT WORDS over the layer: a def of the text, its body, what a loop and a test want. -/
namespace L2
open PySem PySem.Spec PyProof.Rows

/-! ### the text by places -/
/-- the j-th statement of a class's body -/
def inClass (s : Stmt) (j : Nat) : Stmt := match s with
  | .ClassDef _ _ _ body _ _ _ _ _ _ _ => body.getD j (.Pass ⟨0, 0, 0, 0⟩)
  | _ => .Pass ⟨0, 0, 0, 0⟩
def defArgs (s : Stmt) : Arguments := match s with
  | .FunctionDef _ a _ _ _ _ _ _ _ _ => a
  | _ => { posonlyargs := [], args := [], vararg := none, kwonlyargs := [], kw_defaults := [], kwarg := none, defaults := [] }
def defBody (s : Stmt) : List Stmt := match s with
  | .FunctionDef _ _ b _ _ _ _ _ _ _ => b
  | _ => []
def defScope (s : Stmt) : Scope := match s with
  | .FunctionDef _ _ _ _ _ _ sc _ _ _ => sc
  | _ => { kind := .function, names := [], isGenerator := false, isCoroutine := false }

/-! ### no exception leaves a def -/
abbrev CX0 : CXT := fun _ _ _ _ _ _ => False
abbrev E0 : XK := fun _ _ _ => False
theorem pass0 {X : Cx} : Passes CX0 X E0 := fun _ _ _ _ _ _ _ h => h.elim

/-! ### a def (or method) of the text as it stands behind the top -/
structure Fun (K : PySem.W.Frag) (x qual : Str) (st : Stmt) (f : Addr) (fd : FuncData) : Prop where
  ex : ∃ (oc : Value) (od : Option Addr) (kV doc pm : Value) (an : Option Addr) (cdv ct : Value) (osl : Array (Option Value)),
    fd = PySem.W.fnOf x qual (defArgs st) (defBody st) (defScope st) .none kV doc pm an cdv ct ∧ K.lookup f = some ⟨oc, od, .func fd, osl⟩ ∧ PySem.W.codeIn K cdv qual = true
  kp : PySem.W.keepIn K (.ref f) = true
section
variable {P : Program} {w : World} {K : PySem.W.Frag} {mg : Str → Option Value} {base : Heap}
/-- THE RULE for a def: its body as a term of rules, and the reading of that term -/
theorem Fun.ok {x qual : Str} {st : Stmt} {f : Addr} {fd : FuncData} {N ps : List Str} {k : Nat} {sp : Sp} (F : Fun K x qual st f fd) (S : FnScope N ps (defScope st)) (len : ∀ vs H Q E, sp vs H Q E → vs.length = ps.length)
    (hbody : ∀ (cdv : Value) (A : Around) (outer : List Env) (s : Shared) (H : Hp) (vs : List V) (Q : VK) (E : XK), Room k (A.deeper (envOfC qual (defScope st) s.heap.objs.size f cdv)) → sp vs H Q E →
      ∃ t, PSs (cxOf CX0 P w K mg base N qual (defScope st) f cdv A outer s H E).nox (defBody st) t ∧ t { nx := fun _ H' => Q .non H', rt := Q } (start N vs) H) : FnOk P w K mg base CX0 (k + 1) f fd ps sp := by
  obtain ⟨oc, od, kV, doc, pm, an, cdv, ct, osl, rfl, lk, hcd⟩ := F.ex
  refine fn_of lk hcd S len fun A outer s H vs Q E hr hsp => ?_
  obtain ⟨t, h, q⟩ := hbody cdv A outer s H vs Q E hr hsp
  exact ⟨t, h.nox, q⟩
/-- how its arguments bind (no defaults): h is «fun _ _ _ _ _ _ us hl => match us, hl with | [_, _], _ => rfl», one _ a parameter -/
theorem Fun.binds {x qual : Str} {st : Stmt} {f : Addr} {fd : FuncData} {ps : List Str} (F : Fun K x qual st f fd)
    (h : ∀ (kV doc pm : Value) (an : Option Addr) (cdv ct : Value) (us : List Value), us.length = ps.length → bindArgs (PySem.W.fnOf x qual (defArgs st) (defBody st) (defScope st) .none kV doc pm an cdv ct) ⟨us, []⟩ = pure (ps.zip us)) : Binds K fd ps [] := by
  obtain ⟨oc, od, kV, doc, pm, an, cdv, ct, osl, rfl, lk, hcd⟩ := F.ex
  exact .all (h kV doc pm an cdv ct)
theorem fun_mk {x qual : Str} {st : Stmt} {f : Addr} {oc : Value} {od an : Option Addr} {osl : Array (Option Value)} {kV doc pm cdv ct : Value} (l : K.lookup f = some ⟨oc, od, .func (PySem.W.fnOf x qual (defArgs st) (defBody st) (defScope st) .none kV doc pm an cdv ct), osl⟩)
    (c : PySem.W.codeIn K cdv qual = true) (k : PySem.W.keepIn K (.ref f) = true) : Fun K x qual st f (PySem.W.fnOf x qual (defArgs st) (defBody st) (defScope st) .none kV doc pm an cdv ct) := ⟨⟨oc, od, kV, doc, pm, an, cdv, ct, osl, rfl, l, c⟩, k⟩
end
theorem hu_of {A : Around} {k : Nat} (hr : Room k A) : A.units + 1 < cLine := Nat.lt_of_le_of_lt (Nat.add_le_add_left (by decide : 1 ≤ 64) _) hr.units
theorem small1000 {n : Nat} (h : n ≤ 1000) : n < sizeLine := Nat.lt_of_le_of_lt h (by decide)

/-! ### expressions in short: the name that stands in the i-th slot -/
section
variable {X : Cx}
theorem pv (i : Nat) {x : Str} {pos : Pos} (hN : X.N[i]? = some x := by rfl) (hv : Vis X.env.scope x := by first | exact Or.inl rfl | exact Or.inr (Or.inl rfl) | exact Or.inr (Or.inr rfl)) (hd : (x == ("__debug__" : Str)) = false := by decide)
    (hcd : (x == ("__classdict__" : Str)) = false := by decide) : PE X (.Name x pos) (tVar i) := pe_var hN hv hd hcd
end

/-! ### tests -/
theorem iteF {A B : Prop} (h : B) : if false = true then A else B := by
  rw [if_neg Bool.false_ne_true]
  exact h
theorem iteT {A B : Prop} (h : A) : if true = true then A else B := by
  rw [if_pos rfl]
  exact h
theorem ite2 {c A B : Prop} [Decidable c] (h1 : c → A) (h2 : ¬ c → B) : if c then A else B := by
  by_cases h : c
  · rw [if_pos h]
    exact h1 h
  · rw [if_neg h]
    exact h2 h
theorem iteNS {c A B : Prop} [Decidable c] (hc : c) (h : B) : if (!decide c) = true then A else B := by
  rw [decide_eq_true hc]
  exact iteF h

/-! ### heaps -/
/-- all that was tracked is as it was -/
def Same (H H' : Hp) : Prop := ∀ b o, H b = some o → H' b = some o
theorem Same.refl (H : Hp) : Same H H := fun _ _ h => h
theorem Same.trans {H H1 H2 : Hp} (a : Same H H1) (b : Same H1 H2) : Same H H2 := fun c o h => b c o (a c o h)
theorem Same.free {H H' : Hp} (e : Same H H') {l : Addr} (h : H' l = Option.none) : H l = Option.none := by
  cases q : H l with
  | none => rfl
  | some o =>
    rw [e l o q] at h
    cases h
theorem Same.seq {K : PySem.W.Frag} {H H' : Hp} {a : Addr} {xs : List V} (e : Same H H') (h : SqL K H a xs) : SqL K H' a xs := by
  rcases h with (h | ⟨o, h⟩) | h
  · exact .inl (.inl (e _ _ h))
  · exact .inl (.inr ⟨o, e _ _ h⟩)
  · exact .inr h

/-! ### a dict's pairs: keys that differ -/
section
variable {κ : Type} [DecidableEq κ]
end
end L2

set_option Elab.async false
set_option linter.all false
set_option maxRecDepth 100000
set_option maxHeartbeats 4000000
namespace L2
open PySem PySem.Spec PyProof.Rows

theorem natlt {a n : Addr} (h : a < n) : @LT.lt Nat _ a n := h
/-! ### a comprehension's block -/
/-- the cells that a block takes along -/
def clOf (env : Env) : List (Str × NameKind) → List (Str × Addr) → List (Str × Addr)
  | [], acc => acc
  | (n, k) :: r, acc => if k == .free then clOf env r ((n, (env.cells.lookup n).getD 0) :: acc) else clOf env r acc
theorem closure_eq {env : Env} {scope : Scope} (h : ∀ y ∈ scope.names, y.2 = .free → (env.cells.lookup y.1).isSome = true) : closureFor scope env = pure (clOf env scope.names []) := by
  have go : ∀ (ns : List (Str × NameKind)) (acc : List (Str × Addr)), (∀ y ∈ ns, y.2 = .free → (env.cells.lookup y.1).isSome = true) →
      (forIn ns acc (fun x cs => match x with | (name, kind) => if (kind == .free) = true then do let c ← cellOf env name; pure (ForInStep.yield ((name, c) :: cs)) else pure (ForInStep.yield cs)) : Sem (List (Str × Addr))) = pure (clOf env ns acc) := by
    intro ns
    induction ns with
    | nil => intro acc _; rfl
    | cons y r ih =>
      intro acc hy
      obtain ⟨n, k⟩ := y
      rw [List.forIn_cons]
      by_cases hk : k = .free
      · subst hk
        have hs := hy (n, .free) List.mem_cons_self rfl
        obtain ⟨c, hc⟩ := Option.isSome_iff_exists.mp hs
        have e : cellOf env n = pure c := by unfold cellOf; rw [hc]
        show _ = pure (clOf env r ((n, (env.cells.lookup n).getD 0) :: acc))
        rw [← ih _ fun y hm => hy y (List.mem_cons_of_mem _ hm)]
        simp only [beq_self_eq_true, if_true, e, pure_bind, hc, Option.getD_some]
      · have hb : (k == NameKind.free) = false := by simpa using hk
        have hc : clOf env ((n, k) :: r) acc = clOf env r acc := by
          show (if (k == NameKind.free) = true then _ else _) = _
          rw [if_neg (by rw [hb]; decide)]
        rw [hc, ← ih _ fun y hm => hy y (List.mem_cons_of_mem _ hm)]
        simp only [hb, Bool.false_eq_true, if_false, pure_bind]
  have q := go scope.names [] h
  unfold closureFor
  show (forIn scope.names [] _ >>= fun r => pure r) = _
  rw [bind_pure]
  exact q
theorem clOf_lookup {env : Env} : ∀ (ns : List (Str × NameKind)) (acc : List (Str × Addr)) (x : Str), (∀ y ∈ ns, y.2 = .free → (env.cells.lookup y.1).isSome = true) →
    (clOf env ns acc).lookup x = if (x, NameKind.free) ∈ ns then env.cells.lookup x else acc.lookup x
  | [], acc, x, _ => by simp [clOf]
  | (n, k) :: r, acc, x, h => by
    have hr : ∀ y ∈ r, y.2 = .free → (env.cells.lookup y.1).isSome = true := fun y hm => h y (List.mem_cons_of_mem _ hm)
    by_cases hk : k = .free
    · subst hk
      show (clOf env r ((n, (env.cells.lookup n).getD 0) :: acc)).lookup x = _
      rw [clOf_lookup r _ x hr]
      obtain ⟨c, hc⟩ := Option.isSome_iff_exists.mp (h (n, .free) List.mem_cons_self rfl)
      have hc : env.cells.lookup n = some c := hc
      by_cases hm : (x, NameKind.free) ∈ r
      · rw [if_pos hm, if_pos (List.mem_cons_of_mem _ hm)]
      · rw [if_neg hm]
        by_cases e : x = n
        · subst e
          rw [if_pos List.mem_cons_self, List.lookup_cons, hc]
          simp
        · rw [if_neg (fun z => (List.mem_cons.mp z).elim (fun q => e (congrArg Prod.fst q)) hm), List.lookup_cons]
          have : (x == n) = false := by simpa using e
          rw [this]
    · have hb : (k == NameKind.free) = false := by simpa using hk
      have hc : clOf env ((n, k) :: r) acc = clOf env r acc := by
        show (if (k == NameKind.free) = true then _ else _) = _
        rw [if_neg (by rw [hb]; decide)]
      rw [hc, clOf_lookup r acc x hr]
      have : ((x, NameKind.free) ∈ (n, k) :: r) ↔ (x, NameKind.free) ∈ r := by
        constructor
        · intro z
          rcases List.mem_cons.mp z with q | q
          · exact absurd (congrArg Prod.snd q).symm hk
          · exact q
        · exact List.mem_cons_of_mem _
      simp only [this]

theorem relabel_lookup (env : Env) : ∀ (ns : List (Str × NameKind)) (x : Str),
    (ns.map fun (n, k) => if (k == .free && env.scope.kind == .function && env.kindOf n == some .cell) then (n, NameKind.cell) else (n, k)).lookup x =
      (ns.lookup x).map fun k => if (k == .free && env.scope.kind == .function && env.kindOf x == some .cell) = true then NameKind.cell else k
  | [], x => rfl
  | (n, k) :: r, x => by
    show List.lookup x ((if (k == NameKind.free && env.scope.kind == .function && env.kindOf n == some .cell) = true then (n, NameKind.cell) else (n, k)) :: _) = _
    cases hx : x == n with
    | true =>
      have e : x = n := by simpa using hx
      subst e
      by_cases hc : (k == NameKind.free && env.scope.kind == .function && env.kindOf x == some .cell) = true
      · rw [if_pos hc]; simp only [List.lookup_cons, hx, Option.map_some, if_pos hc]
      · rw [if_neg hc]; simp only [List.lookup_cons, hx, Option.map_some, if_neg hc]
    | false =>
      have ih := relabel_lookup env r x
      by_cases hc : (k == NameKind.free && env.scope.kind == .function && env.kindOf n == some .cell) = true
      · rw [if_pos hc]; simp only [List.lookup_cons, hx]; exact ih
      · rw [if_neg hc]; simp only [List.lookup_cons, hx]; exact ih

/-- the block's names: its own first, then those that it takes along: the outer names at the places caps -/
structure CompScope (N own : List Str) (caps : List Nat) (XN : List Str) (outer scope : Scope) : Prop where
  kind : scope.kind = .function
  nocell : ∀ y ∈ scope.names, y.2 ≠ .cell
  names : ∀ y ∈ scope.names, y.2 = .local → scope.names.lookup y.1 = some .local
  free : ∀ y ∈ scope.names, y.2 = .free → outer.names.lookup y.1 = some .cell ∨ outer.names.lookup y.1 = some .free
  nd : N.Nodup
  len : N.length = own.length + caps.length
  cap : ∀ (j : Nat), j < caps.length → N[own.length + j]? = XN[caps.getD j 0]? ∧ ∃ x, N[own.length + j]? = some x ∧ (x, NameKind.free) ∈ scope.names ∧ scope.names.lookup x = some .free

def st0 (own : List Str) (caps : List Nat) (σ : St) : St := own.map (fun _ => none) ++ caps.map (fun i => (σ[i]?).join)

def cxComp (X : Cx) (scope : Scope) (C : Addr) (N : List Str) (s : Shared) (H : Hp) (fp : List Addr) : Cx :=
  { X with N := N, s₀ := s, H₀ := H, env := compEnvC scope (clOf X.env scope.names []) C X.env, outer := X.stack, ex := fp, fn := fun _ => false, pn := [], xe := fun _ _ => False }

section
variable {X : Cx} {pins : List (Addr × Obj)} {σ : St} {H : Hp} {s : Shared} {scope : Scope} {N own : List Str} {caps : List Nat} {fp : List Addr} {C : Nat}
theorem CompScope.csome (S : CompScope N own caps X.N X.env.scope scope) (ok : X.Ok) : ∀ y ∈ scope.names, y.2 = .free → (X.env.cells.lookup y.1).isSome = true := fun y hy hf => by
  obtain ⟨c, e⟩ := ok.has y.1 (S.free y hy hf)
  rw [e]; rfl
theorem CompScope.csub (S : CompScope N own caps X.N X.env.scope scope) (ok : X.Ok) {x : Str} {c : Addr} (h : (clOf X.env scope.names []).lookup x = some c) : X.env.cells.lookup x = some c := by
  rw [clOf_lookup _ _ _ (S.csome ok)] at h
  split at h
  · exact h
  · simp at h
theorem CompScope.lookFree {S : CompScope N own caps X.N X.env.scope scope} {x : Str} (h : (relabel scope X.env).names.lookup x = some .cell ∨ (relabel scope X.env).names.lookup x = some .free) : (x, NameKind.free) ∈ scope.names := by
  have e := relabel_lookup X.env scope.names x
  have e' : (relabel scope X.env).names.lookup x = (scope.names.lookup x).map fun k => if (k == .free && X.env.scope.kind == .function && X.env.kindOf x == some .cell) = true then NameKind.cell else k := e
  rw [e'] at h
  cases q : scope.names.lookup x with
  | none => rw [q] at h; simp at h
  | some k =>
    have hm := PySem.mem_of_lookup q
    by_cases hk : k = .free
    · subst hk; exact hm
    · rw [q] at h
      have hb : (k == NameKind.free) = false := by simpa using hk
      simp only [Option.map_some, hb, Bool.false_and, Bool.false_eq_true, if_false] at h
      rcases h with h | h
      · exact absurd (Option.some.inj h) (S.nocell _ hm)
      · exact absurd (Option.some.inj h) hk

/-- the block's context is in order, and its names stand -/
theorem Inv.comp {h1 : Heap} {D : Nat} (I : Inv X pins σ H s) (S : CompScope N own caps X.N X.env.scope scope) (hfp : ∀ b ∈ fp, FpOk X pins H b) (hfo : ∀ b ∈ fp, ∃ o, s.heap.get? b = some o)
    (hD : D = s.heap.objs.size) (hC : C = s.heap.objs.size + 1) (old : ∀ b o, s.heap.get? b = some o → h1.get? b = some o) (hns : h1.Ns C (fun _ => none)) (hl : h1.get? D = some { cls := .type "list", data := .seq #[] }) {t : Nat} :
    Inv (cxComp X scope C N s H fp) [] (st0 own caps σ) (upd H D (.lst [])) { s with heap := h1, toks := t } := by
  have some' := S.csome I.ok
  have sub : ∀ {x c}, (clOf X.env scope.names []).lookup x = some c → X.env.cells.lookup x = some c := fun h => S.csub I.ok h
  have freshD : H D = none := I.hok.fresh (by rw [hD]; exact Nat.le_refl _)
  have freshC : H C = none := I.hok.fresh (by rw [hC]; exact Nat.le_succ _)
  have cellLt : ∀ x c, X.env.cells.lookup x = some c → c < s.heap.objs.size := fun x c e => by
    obtain ⟨v, z⟩ := I.cell x c e
    exact z.lt
  have fpLt : ∀ b ∈ fp, b < s.heap.objs.size := fun b hb => by
    obtain ⟨o, e⟩ := hfo b hb
    exact Heap.lt_size e
  have DC : D ≠ C := by omega
  refine ⟨⟨I.ok.mod, S.kind, I.ok.glob, I.ok.blt, by show s.heap.objs.size ≤ C; omega, fun x y c e1 e2 => I.ok.inj x y c (sub e1) (sub e2), fun x h => ?_, fun x c h => (by cases h), I.ok.hd, I.ok.frames, Or.inl rfl, fun b hb => ⟨?_, fun x c e => ?_⟩, I.bs, Nat.le_trans I.ok.bsz I.sz, fun b o e hb => ?_, fun b hb z => ?_, I.stack, I.stkFree⟩,
    rfl, I.bare, Un.laid old (by show s.heap.objs.size ≤ D; omega) freshD, ⟨_, hns, fun j x v e1 e2 e3 => ?_⟩, fun x c e => ?_, ?_, fun x c e => ?_, fun p hp => ?_, I.hok.laid old (by omega) ?_, ?_⟩
  · have hm := CompScope.lookFree (S := S) (X := X) h
    obtain ⟨c, e⟩ := Option.isSome_iff_exists.mp (some' _ hm rfl)
    exact ⟨c, by show (clOf X.env scope.names []).lookup x = _; rw [clOf_lookup _ _ _ some', if_pos hm]; exact e⟩
  · exact Nat.ne_of_lt (show @LT.lt Nat _ b C by have := natlt (fpLt b hb); omega)
  · exact (hfp b hb).2.2.2.2.1 x c (sub e)
  · rcases (hfp b hb).2.2.2.1 with z | z
    · exact I.ok.noex b o e z
    · exact absurd (Nat.lt_of_lt_of_le (Heap.lt_size e) (Nat.le_trans I.ok.bsz z)) (Nat.lt_irrefl _)
  · rcases List.mem_cons.mp (I.stkSub b z) with q | q
    · exact (hfp b hb).2.1 q
    · exact (hfp b hb).2.2.1 q
  · have e1 : N[j]? = some x := e1
    have hj : own.length ≤ j := by
      by_cases q : own.length ≤ j
      · exact q
      · exfalso
        unfold st0 at e2
        rw [List.getElem?_append_left (by simp; omega), List.getElem?_map] at e2
        cases r : own[j]? with
        | none => rw [r] at e2; cases e2
        | some a => rw [r] at e2; cases e2
    have hjl : j < N.length := (List.getElem?_eq_some_iff.mp e1).1
    have hjc : j - own.length < caps.length := by have := S.len; omega
    obtain ⟨c1, x', c2, c3, c4⟩ := S.cap (j - own.length) hjc
    rw [show own.length + (j - own.length) = j by omega] at c1 c2
    rw [e1] at c2
    cases c2
    have e2' : (σ[caps.getD (j - own.length) 0]?).join = some v := by
      unfold st0 at e2
      rw [List.getElem?_append_right (by simp; omega), List.getElem?_map, List.length_map] at e2
      rw [List.getD_eq_getElem?_getD]
      cases r : caps[j - own.length]? with
      | none => rw [r] at e2; cases e2
      | some a => rw [r] at e2; exact Option.some.inj e2
    have e2'' : σ[caps.getD (j - own.length) 0]? = some (some v) := by
      cases r : σ[caps.getD (j - own.length) 0]? with
      | none => rw [r] at e2'; cases e2'
      | some a => rw [r] at e2'; exact congrArg Option.some e2'
    have kx : X.env.kindOf x = some .cell ∨ X.env.kindOf x = some .free := S.free _ c3 rfl
    obtain ⟨m, hn, hl'⟩ := I.loc
    obtain ⟨u, r, l⟩ := hl' _ x v (by rw [← c1]; exact e1) e2'' (by rcases kx with z | z; exact .inr (.inl z); exact .inr (.inr z))
    refine ⟨u, r, .inr ⟨?_, ?_⟩⟩
    · show (relabel scope X.env).names.lookup x = some .cell ∨ (relabel scope X.env).names.lookup x = some .free
      have e : (relabel scope X.env).names.lookup x = (scope.names.lookup x).map fun k => if (k == .free && X.env.scope.kind == .function && X.env.kindOf x == some .cell) = true then NameKind.cell else k := relabel_lookup X.env scope.names x
      rw [e, c4, Option.map_some]
      split
      · exact .inl rfl
      · exact .inr rfl
    · rcases l with ⟨hk, _⟩ | ⟨_, c, hc, z⟩
      · rcases kx with q | q <;> rw [hk] at q <;> cases q
      · refine ⟨c, ?_, ?_⟩
        · show (clOf X.env scope.names []).lookup x = _
          rw [clOf_lookup _ _ _ some', if_pos c3]; exact hc
        · obtain ⟨o, ho, hd⟩ := z
          exact ⟨o, old c o ho, hd⟩
  · obtain ⟨v, o, ho, hd⟩ := I.cell x c (sub e)
    exact ⟨v, o, old c o ho, hd⟩
  · show upd H D (.lst []) C = none
    rw [upd_ne DC.symm]; exact freshC
  · show upd H D (.lst []) c = none
    rw [upd_ne (Nat.ne_of_lt (by have := natlt (cellLt x c (sub e)); omega))]; exact I.freeC x c (sub e)
  · cases hp
  · exact ⟨Nat.zero_le _, [], 0, .nil, hl⟩
  · show (own.map (fun _ => none) ++ caps.map _).length = N.length
    rw [List.length_append, List.length_map, List.length_map, S.len]

/-- behind the block -/
theorem Inv.uncomp {pins' : List (Addr × Obj)} {σ' : St} {H' : Hp} {s' : Shared} {h' : Heap} (I : Inv X pins σ H s) (hfp : ∀ b ∈ fp, FpOk X pins H b) (hC : s.heap.objs.size ≤ C) (J : Inv (cxComp X scope C N s H fp) pins' σ' H' s') (hs : Heap.SameBut C s'.heap h') :
    Inv X pins σ H' { s' with heap := h' } := by
  have nC : ∀ b o, s.heap.get? b = some o → b ≠ C := fun b o e => Nat.ne_of_lt (by have := natlt (Heap.lt_size e); omega)
  have u := J.base
  have frC : H' C = none := J.free
  refine I.call' (ch := fp) (s' := { s' with heap := h' }) J.os ⟨fun b o e n hb hx => ?_, fun b o e n hb hx => ?_, u.free, fun b o e hx => ?_, u.tups, u.frzs, u.tbls⟩ (fun a o e => (J.hok a o e).stay (fun b v hb q => ?_) (fun _ q => q) fun _ _ q => q) J.bare fun b hb => ?_
  · exact (hs.2 b (nC b o e)).trans (u.keep b o e n hb hx)
  · obtain ⟨sl, q⟩ := u.slot b o e n hb hx
    exact ⟨sl, (hs.2 b (nC b o e)).trans q⟩
  · obtain ⟨o', q⟩ := u.there b o e hx
    exact ⟨o', (hs.2 b (nC b o e)).trans q⟩
  · refine (hs.2 b ?_).trans q
    intro z
    subst z
    rcases hb with z | z
    · subst z; rw [frC] at e; cases e
    · rw [frC] at z; cases z
  · exact ⟨(hfp b hb).2.2.2.1, (hfp b hb).2.1, (hfp b hb).2.2.2.2.1, (hfp b hb).2.2.2.2.2⟩
end

section
variable {prog : Program} {w : World} {A : Around} {R : Result → Shared → Prop} {s : Shared}
theorem compLoop_any {elt target iter : Expr} {ifs : List Expr} {scope : Scope} {pos : Pos} {it acc : Value} {env : Env} (I : Nat → Shared → Prop)
    (turn : ∀ n s, I n s → wpAny (model prog w) A (pyNext it) (fun r s1 => match r with
      | none => R (.ok .next) s1
      | some v => wpAny (model prog w) A (letOwnedTupleGo target it v) (fun _ s1' => wpAny (model prog w) A (assign target env v) (fun _ s2 =>
          wpAny (model prog w) A (forIn ifs true fun c r => if r = true then do let ok ← isTrue c env (eval c env); pure (ForInStep.yield ok) else pure (ForInStep.yield r)) (fun ok s3 =>
            if ok = true then wpAny (model prog w) A (eval elt env) (fun x s4 =>
              wpAny (model prog w) A (call (.builtin "list.append") [acc, x]) (fun _ s5 => ∃ m, m < n ∧ I m s5) (fun _ _ => False) s4) (fun _ _ => False) s3
            else ∃ m, m < n ∧ I m s3) (fun _ _ => False) s2) (fun _ _ => False) s1') (fun _ _ => False) s1) (fun _ _ => False) s)
    (n : Nat) (h : I n s) :
    codeAny (model prog w) A (.compLoop (.ListComp elt [⟨target, iter, ifs, 0⟩] scope pos) 0 it acc env) R s := by
  refine codeAny_loop rfl I (fun n s hI => ?_) n h
  show wpAny _ A ((compTurn (.ListComp elt [⟨target, iter, ifs, 0⟩] scope pos) 0 it acc env).onRaise (fun x => do noteFrame x env; theTreesLotGoes x)) _ _ s
  refine wpAny_noted ?_
  rw [compTurn_list]
  refine wpAny_bind (wpAny_standAt (wpAny_bind (wpAny_mono (turn n s hI) (fun r s1 h1 => ?_) fun _ _ h' => h'.elim)))
  cases r with
  | none => exact wpAny_pure h1
  | some v =>
    refine wpAny_bind (wpAny_mono h1 (fun _ s1' h1' => ?_) fun _ _ h' => h'.elim)
    refine wpAny_bind (wpAny_mono h1' (fun _ s2 h2 => wpAny_bind (wpAny_mono h2 (fun ok s3 h3 => ?_) fun _ _ h' => h'.elim)) fun _ _ h' => h'.elim)
    cases ok with
    | false => exact wpAny_pure ⟨rfl, h3⟩
    | true =>
      exact wpAny_bind (wpAny_bind (wpAny_mono h3 (fun x s4 h4 => wpAny_bind (wpAny_mono h4 (fun _ s5 h5 => wpAny_pure (wpAny_pure ⟨rfl, h5⟩)) fun _ _ h' => h'.elim)) fun _ _ h' => h'.elim))
end

/-- the tests of a comprehension -/
def PTs (X : Cx) (ifs : List Expr) (t : TT) : Prop :=
  ∀ (pins : List (Addr × Obj)) (s : Shared) (σ : St) (H : Hp) (Q : Bool → Hp → Prop), Inv X pins σ H s → t σ H Q →
    wpAny (model X.prog X.w) X.A (forIn ifs true fun c r => if r = true then do let ok ← isTrue c X.env (eval c X.env); pure (ForInStep.yield ok) else pure (ForInStep.yield r)) (TP X pins σ Q) X.xe s
def tAll : TT := fun _ H Q => Q true H
theorem pts_nil {X : Cx} : PTs X [] tAll := fun _ _ _ H _ I h => wpAny_tests_nil ⟨H, I, h⟩
theorem pts_one {X : Cx} {c : Expr} {t : TT} (h : PT X c t) : PTs X [c] t := fun pins s σ H Q I q => wpAny_tests_one (h pins s σ H Q I q)

/-- [e for target in iter if c]: W between two turns; the list grows at D; N: what the turn is to reach -/
def CompW (J : It) (g : TG) (tc : TT) (te : TE) (Q : VK) (D : Addr) (σ0 : St) (H1 : Hp) : Prop :=
  ∃ W : Nat → Nat → St → Hp → Prop, (∃ m, W 0 m σ0 (upd H1 D (.lst []))) ∧ ∀ i m σ H, W i m σ H →
    (J.stop i H ∧ Q (.ref D) H) ∨ (J.go i H ∧ ∃ N : St → Hp → Prop, (∀ σ' H', N σ' H' → ∃ m', m' < m ∧ W (i + 1) m' σ' H') ∧ ∀ x H', J.yld i H x H' → g x σ H' fun σ2 H2 => tc σ2 H2 fun b H3 =>
      if b = true then te σ2 H3 fun y H4 => ∃ acc, H4 D = some (.lst acc) ∧ acc.length < sizeLine ∧ N σ2 (upd H4 D (.lst (acc ++ [y]))) else N σ2 H3)
def tComp (own : List Str) (caps : List Nat) (wi : TI) (g : TG) (tc : TT) (te : TE) : TE := fun σ H Q => wi σ H fun J H1 => ∀ D, H1 D = none → CompW J g tc te Q D (st0 own caps σ) H1

section
variable {X : Cx} {elt tg iter : Expr} {ifs : List Expr} {scope : Scope} {pos : Pos} {N own : List Str} {caps : List Nat} {wi : TI} {g : TG} {tc : TT} {te : TE}
/-- the block run: from the iterator to the list -/
theorem comp_run {use : Option (Value → Sem Unit)} {Qv : Value → Shared → Prop} {pins : List (Addr × Obj)} {σ : St} {H : Hp} {s : Shared} {Q : VK} (hc : X.calm = true) (S : CompScope N own caps X.N X.env.scope scope)
    (hg : ∀ C s H fp, PG (cxComp X scope C N s H fp) tg g) (hcs : ∀ C s H fp, PTs (cxComp X scope C N s H fp) ifs tc) (he : ∀ C s H fp, PE (cxComp X scope C N s H fp) elt te)
    (hi : PI X tg iter wi) (hs : ∀ x, foldedSetIterable iter X.env x = pure x)
    (I : Inv X pins σ H s) (h : tComp own caps wi g tc te σ H Q)
    (fin : ∀ (D C : Addr) (H' : Hp) (s' : Shared), (∃ m, s'.heap.Ns C m) → Inv X pins σ H' s' → (∀ h', Heap.SameBut C s'.heap h' → Inv X pins σ H' { s' with heap := h' }) → FpOk X pins H' C → Q (.ref D) H' →
      compPost (model X.prog X.w) X.A X.xe use Qv (.ref D) C (.ok .next) s') :
    wpAny (model X.prog X.w) X.A (comprehension (.ListComp elt [⟨tg, iter, ifs, 0⟩] scope pos) scope X.env (firstIterPos [⟨tg, iter, ifs, 0⟩] pos) (newList []) false (eval iter X.env) use) Qv X.xe s := by
  refine wpAny_comprehension_free (use := use) rfl hs (closure_eq (S.csome I.ok)) S.kind S.names (thn (hi pins s σ H _ I h) fun xv s1 h1 => thn h1 fun itv s2 h2 => ?_)
  obtain ⟨it, fp, tn, J, H2, e, I2, T, st2, f2, q2⟩ := h2
  subst e
  refine wpAny_newList ?_
  refine wpAny_newFunctionEnv S.nocell (by intro y hy; simp at hy) (fun h1 hns1 hsb1 => ?_) S.kind
  dsimp only at hns1 hsb1 ⊢
  have hD : H2 s2.heap.objs.size = none := I2.hok.fresh (Nat.le_refl _)
  have hsz : (s2.heap.push { cls := .type "list", data := .seq ([] : List Value).toArray }).objs.size = s2.heap.objs.size + 1 := Heap.size_push ..
  have old : ∀ b o, s2.heap.get? b = some o → h1.get? b = some o := fun b o e => by
    refine hsb1.extBut b o (Nat.ne_of_lt (by have := natlt (Heap.lt_size e); rw [hsz]; omega)) (Heap.get?_push_of_some _ (Heap.get?_push_of_some _ e))
  have hl : h1.get? s2.heap.objs.size = some { cls := .type "list", data := .seq #[] } :=
    hsb1.extBut _ _ (Nat.ne_of_lt (by rw [hsz]; omega)) (Heap.get?_push_of_some _ (Heap.get?_push_size _ rfl))
  have hfo : ∀ b ∈ fp, ∃ o, s2.heap.get? b = some o := fun b hb => let ⟨o, e, _⟩ := T.obj _ _ st2 b hb; ⟨o, e⟩
  have I4 := Inv.comp (C := (s2.heap.push { cls := .type "list", data := .seq ([] : List Value).toArray }).objs.size) (t := s2.toks + ([] : List (Str × Value)).length) I2 S f2 hfo rfl hsz old hns1 hl
  obtain ⟨W, ⟨m0, w0⟩, turn⟩ := q2 _ hD
  generalize hCe : (s2.heap.push { cls := .type "list", data := .seq ([] : List Value).toArray }).objs.size = C at *
  generalize hDe : s2.heap.objs.size = D at *
  have hDC : D ≠ C := by omega
  -- the loop
  have loop : ∀ s3 : Shared, s3 = { s2 with heap := h1, toks := s2.toks + ([] : List (Str × Value)).length } →
      codeAny (model X.prog X.w) X.A (.compLoop (.ListComp elt [⟨tg, iter, ifs, 0⟩] scope pos) 0 (.ref it) (.ref D) (cxComp X scope C N s2 H2 fp).env) (compPost (model X.prog X.w) X.A X.xe use Qv (.ref D) C) s3 := by
    rintro s3 rfl
    have frz : ∀ b ∈ fp, (upd H2 D (.lst [])) b = none := fun b hb => by
      obtain ⟨o, e⟩ := hfo b hb
      rw [upd_ne (Nat.ne_of_lt (by have := natlt (Heap.lt_size e); omega))]
      exact (f2 b hb).1
    have stat : ∀ {H' : Hp}, (∀ b ∈ fp, H' b = none) → ∀ b ∈ fp, FpOk (cxComp X scope C N s2 H2 fp) [] H' b := fun hn b hb => by
      obtain ⟨o, e⟩ := hfo b hb
      have hlt := natlt (Heap.lt_size e)
      refine ⟨hn b hb, ?_, fun z => ?_, .inl hb, fun x c e' => (f2 b hb).2.2.2.2.1 x c (S.csub I2.ok e'), fun p hp => (by cases hp)⟩
      · exact Nat.ne_of_lt (show @LT.lt Nat _ b C by omega)
      · rcases List.mem_cons.mp (I2.stkSub b z) with q | q
        · exact (f2 b hb).2.1 q
        · exact (f2 b hb).2.2.1 q
    refine compLoop_any (fun n s' => ∃ i σ' H', Inv (cxComp X scope C N s2 H2 fp) [] σ' H' s' ∧ tn i s'.heap ∧ (∀ b ∈ fp, H' b = none) ∧ W i n σ' H') ?_ m0
      ⟨0, _, _, I4, T.keep _ _ _ st2 fun b _ o e => old b o e, frz, w0⟩
    rintro n s3 ⟨i, σ3, H3, I3, st3, fr3, w3⟩
    rcases turn i n σ3 H3 w3 with ⟨stop, qn⟩ | ⟨go, Nx, hNx, step⟩
    · refine thn (T.done (cxComp X scope C N s2 H2 fp) rfl rfl rfl hc i [] s3 σ3 H3 _ I3 (stat fr3) st3 stop) fun r s4 ⟨hr, J4⟩ => ?_
      subst hr
      obtain ⟨m4, hn4, _⟩ := J4.loc
      exact fin D C H3 s4 ⟨m4, hn4⟩ (I2.uncomp f2 (by omega) J4 (Heap.SameBut.refl _ _)) (fun h' hs' => I2.uncomp f2 (by omega) J4 hs') (I2.fpOk (show s2.heap.objs.size ≤ C by omega) J4.free) qn
    · refine thn (T.item (cxComp X scope C N s2 H2 fp) rfl rfl rfl hc i [] s3 σ3 H3 _ I3 (stat fr3) st3 go) fun r s4 ⟨u, hr, h4⟩ => ?_
      subst hr
      refine thn h4 fun _ s5 ⟨x, H5, I5, r5, y5, st5, fr5⟩ => ?_
      have I5' := I5.pinned (stat fr5) (T.obj _ _ st5)
      refine thn (hg C s2 H2 fp _ s5 σ3 H5 x u _ I5' r5 (step x H5 y5)) fun _ s6 ⟨σ6, H6, I6, q6⟩ => ?_
      refine thn (hcs C s2 H2 fp _ s6 σ6 H6 _ I6 q6) fun ok s7 ⟨H7, I7, q7⟩ => ?_
      have again : ∀ {σ8 : St} {H8 : Hp} {s8 : Shared}, Inv (cxComp X scope C N s2 H2 fp) ([] ++ pinsAt fp s5.heap) σ8 H8 s8 → Nx σ8 H8 → ∃ m, m < n ∧ ∃ i σ' H', Inv (cxComp X scope C N s2 H2 fp) [] σ' H' s8 ∧ tn i s8.heap ∧ (∀ b ∈ fp, H' b = none) ∧ W i m σ' H' := fun {σ8 H8 s8} I8 n8 => by
        obtain ⟨m', hm, w8⟩ := hNx _ _ n8
        refine ⟨m', hm, i + 1, σ8, H8, I8.unpinned, T.keep _ _ _ st5 fun b hb o e => (I8.pin (b, o) (List.mem_append_right _ (List.mem_append_right _ (mem_pinsAt hb e)))).1, fun b hb => ?_, w8⟩
        obtain ⟨o, e, d⟩ := T.obj _ _ st5 b hb
        exact (I8.pin (b, o) (List.mem_append_right _ (List.mem_append_right _ (mem_pinsAt hb e)))).2.1
      cases ok with
      | false =>
        rw [if_neg (by decide)] at q7
        exact again I7 q7
      | true =>
        rw [if_pos rfl] at q7
        refine thn (he C s2 H2 fp _ s7 σ6 H7 _ I7 q7) fun y s8 ⟨yv, H8, I8, r8, acc, ha, hlen, q8⟩ => ?_
        exact thn (mt_append _ s8 σ6 H8 (.ref D) [yv] (.ref D) [y] (fun v H9 => Nx σ6 H9) I8 rfl (.cons r8 .nil) ⟨D, acc, yv, rfl, rfl, ha, hlen, q8⟩) fun _ s9 ⟨_, H9, I9, _, q9⟩ => again I9 q9
  exact codeAny_compStart_list (loop _ rfl) (T.self _ 0 _ _ _ (T.keep _ _ _ st2 fun b _ o e => old b o e) (loop _ rfl))

theorem pe_comp (hc : X.calm = true) (S : CompScope N own caps X.N X.env.scope scope) (hi : PI X tg iter wi)
    (hg : ∀ C s H fp, PG (cxComp X scope C N s H fp) tg g) (hcs : ∀ C s H fp, PTs (cxComp X scope C N s H fp) ifs tc) (he : ∀ C s H fp, PE (cxComp X scope C N s H fp) elt te)
    (hs : ∀ x, foldedSetIterable iter X.env x = pure x := by intro _; rfl) : PE X (.ListComp elt [⟨tg, iter, ifs, 0⟩] scope pos) (tComp own caps wi g tc te) := by
  intro pins s σ H Q I h
  rw [eval_ListComp]
  refine comp_run (use := none) hc S hg hcs he hi hs I h ?_
  intro D C H' s' hn I' hk _ q
  obtain ⟨m, hn⟩ := hn
  exact ⟨m, hn, fun h' hs' => ⟨.ref D, H', hk h' hs', rfl, q⟩⟩
/-- x = [e for ..] on one row: the name is stored ahead of the block's names being let go -/
theorem ps_setC {i : Nat} {x : Str} {px sp : Pos} (hc : X.calm = true) (hN : X.N.Nodup) (hx : X.N[i]? = some x) (hl : Loc X.env.scope x) (S : CompScope N own caps X.N X.env.scope scope) (hi : PI X tg iter wi)
    (hg : ∀ C s H fp, PG (cxComp X scope C N s H fp) tg g) (hcs : ∀ C s H fp, PTs (cxComp X scope C N s H fp) ifs tc) (he : ∀ C s H fp, PE (cxComp X scope C N s H fp) elt te)
    (hsw : swapsWith (.ListComp elt [⟨tg, iter, ifs, 0⟩] scope pos) (some (.Name x px)) sp.line X.env = pure true := by rfl)
    (hs : ∀ x, foldedSetIterable iter X.env x = pure x := by intro _; rfl) (hf : X.fn x = true ∨ X.env.scope.names.lookup x = some .local := by first | exact .inl rfl | exact .inr rfl | assumption) :
    PS X (.Assign [.Name x px] (.ListComp elt [⟨tg, iter, ifs, 0⟩] scope pos) sp) (tAsg (tComp own caps wi g tc te) (gName i)) := by
  intro pins s σ H D I h
  rw [exec_Assign_Name_used _ _ _ _ hsw]
  refine wpAny_bind (wpAny_standAt (wpAny_bind ?_))
  show wpAny _ X.A (do let _ ← comprehension (.ListComp elt [⟨tg, iter, ifs, 0⟩] scope pos) scope X.env (firstIterPos [⟨tg, iter, ifs, 0⟩] pos) (newList []) false (eval iter X.env) (some (assign (.Name x px) X.env))) _ _ s
  refine wpAny_bind (wpAny_mono (comp_run (use := some (assign (.Name x px) X.env)) (Qv := fun _ s' => SP X pins D .next s') hc S hg hcs he hi hs I h ?_) (fun _ s' hq => wpAny_pure (wpAny_pure hq)) fun _ _ e => e)
  intro E C H' s' hn I' hk fC q
  obtain ⟨m, hn⟩ := hn
  obtain ⟨f0, f1, f2, f3, f4, f5⟩ := fC
  show wpAny _ X.A (assign (.Name x px) X.env (.ref E)) _ _ _
  refine wpAny_assign_Name (store_ok2 I' hN hx hl (v := .ref E) rfl (fun s2 I2 k => ?_) hf)
  refine ⟨m, ?_, fun h' hs' => ?_⟩
  · obtain ⟨o, es, ep, ho, r⟩ := hn
    obtain ⟨a, ks, ka⟩ := k
    have hCa : C ≠ a := fun z => by
      rcases ka with q' | q'
      · exact f1 (z.trans q')
      · exact f4 x a q' z.symm
    exact ⟨o, es, ep, (ks.2 C hCa).trans ho, r⟩
  · exact ⟨_, H', I2.turned (t' := s2.toks) (fun b o hb e => (hs'.2 b hb).trans e) f0 f1 f3 f4 f5, q⟩
end
/-- the names of a block, checked -/
def compOk (N own : List Str) (caps : List Nat) (XN : List Str) (outer scope : Scope) : Bool :=
  decide (scope.kind = .function) && scope.names.all (fun y => decide (y.2 ≠ .cell)) && scope.names.all (fun y => decide (y.2 ≠ .local) || decide (scope.names.lookup y.1 = some .local)) &&
  scope.names.all (fun y => decide (y.2 ≠ .free) || decide (outer.names.lookup y.1 = some .cell) || decide (outer.names.lookup y.1 = some .free)) && decide N.Nodup && decide (N.length = own.length + caps.length) &&
  (List.range caps.length).all (fun j => match N[own.length + j]? with | some x => decide (XN[caps.getD j 0]? = some x) && decide ((x, NameKind.free) ∈ scope.names) && decide (scope.names.lookup x = some .free) | none => false)
theorem CompScope.of {N own : List Str} {caps : List Nat} {XN : List Str} {outer scope : Scope} (h : compOk N own caps XN outer scope = true) : CompScope N own caps XN outer scope := by
  unfold compOk at h
  simp only [Bool.and_eq_true, decide_eq_true_eq, List.all_eq_true, Bool.or_eq_true] at h
  obtain ⟨⟨⟨⟨⟨⟨h1, h2⟩, h3⟩, h4⟩, h5⟩, h6⟩, h7⟩ := h
  refine ⟨h1, h2, fun y hy e => ?_, fun y hy e => ?_, h5, h6, fun j hj => ?_⟩
  · rcases h3 y hy with z | z
    · exact absurd e z
    · exact z
  · rcases h4 y hy with (z | z) | z
    · exact absurd e z
    · exact .inl z
    · exact .inr z
  · have q := h7 j (List.mem_range.mpr hj)
    cases e : N[own.length + j]? with
    | none => rw [e] at q; cases q
    | some x =>
      rw [e] at q
      simp only [Bool.and_eq_true, decide_eq_true_eq] at q
      exact ⟨q.1.1.symm, x, rfl, q.1.2, q.2⟩
end L2
set_option Elab.async false
set_option linter.all false
set_option maxRecDepth 100000
set_option maxHeartbeats 4000000
namespace L2
open PySem PySem.Spec PyProof.Rows

/-! ### plain data at a heap -/
mutual
def Dat (H : Hp) : V → PyData → Prop
  | v, .none => v = .non
  | v, .bool b => v = .bl b
  | v, .int i => v = .int i
  | v, .str x => v = .str x
  | v, .list ds => ∃ a vs, v = .ref a ∧ H a = some (.lst vs) ∧ Dats H vs ds
  | v, .tuple ds => ∃ a vs, v = .ref a ∧ H a = some (.tup vs) ∧ Dats H vs ds
  | _, .dict _ => False
def Dats (H : Hp) : List V → List PyData → Prop
  | [], [] => True
  | v :: vs, d :: ds => Dat H v d ∧ Dats H vs ds
  | [], _ :: _ => False
  | _ :: _, [] => False
end
section
variable {H H' : Hp}
theorem Dats.length : ∀ {vs : List V} {ds : List PyData}, Dats H vs ds → vs.length = ds.length
  | [], [], _ => rfl
  | _ :: _, _ :: _, h => by simp only [Dats] at h; simp [Dats.length h.2]
  | [], _ :: _, h => by simp only [Dats] at h
  | _ :: _, [], h => by simp only [Dats] at h
theorem Dats.get : ∀ {vs : List V} {ds : List PyData} {i : Nat} {v : V}, Dats H vs ds → vs[i]? = some v → ∃ d, ds[i]? = some d ∧ Dat H v d
  | _ :: _, _ :: _, 0, _, h, e => by simp only [Dats] at h; simp at e; subst e; exact ⟨_, rfl, h.1⟩
  | _ :: _, _ :: _, i + 1, _, h, e => by simp only [Dats] at h; simp at e; obtain ⟨d, q, r⟩ := Dats.get h.2 e; exact ⟨d, by simpa using q, r⟩
  | [], [], _, _, _, e => by simp at e
  | [], _ :: _, _, _, h, _ => by simp only [Dats] at h
  | _ :: _, [], _, _, h, _ => by simp only [Dats] at h
theorem Dats.getD : ∀ {vs : List V} {ds : List PyData} {i : Nat} {d : PyData}, Dats H vs ds → ds[i]? = some d → ∃ v, vs[i]? = some v ∧ Dat H v d
  | _ :: _, _ :: _, 0, _, h, e => by simp only [Dats] at h; simp at e; subst e; exact ⟨_, rfl, h.1⟩
  | _ :: _, _ :: _, i + 1, _, h, e => by simp only [Dats] at h; simp at e; obtain ⟨d, q, r⟩ := Dats.getD h.2 e; exact ⟨d, by simpa using q, r⟩
  | [], [], _, _, _, e => by simp at e
  | [], _ :: _, _, _, h, _ => by simp only [Dats] at h
  | _ :: _, [], _, _, h, _ => by simp only [Dats] at h
theorem Dats.append : ∀ {vs ws : List V} {ds es : List PyData}, Dats H vs ds → Dats H ws es → Dats H (vs ++ ws) (ds ++ es)
  | [], _, [], _, _, g => g
  | _ :: _, _, _ :: _, _, h, g => by simp only [Dats, List.cons_append] at h ⊢; exact ⟨h.1, Dats.append h.2 g⟩
  | [], _, _ :: _, _, h, _ => by simp only [Dats] at h
  | _ :: _, _, [], _, h, _ => by simp only [Dats] at h
theorem Dats.ints (ns : List Int) : Dats H (ns.map V.int) (ns.map PyData.int) := by
  induction ns with
  | nil => simp only [List.map_nil, Dats]
  | cons n r ih => simp only [List.map_cons, Dats, Dat]; exact ⟨trivial, ih⟩
mutual
theorem Dat.mono (hl : ∀ a xs, H a = some (HO.lst xs) → H' a = some (HO.lst xs)) (ht : ∀ a xs, H a = some (HO.tup xs) → H' a = some (HO.tup xs)) : ∀ (d : PyData) {v : V}, Dat H v d → Dat H' v d
  | .none, _, h => by simp only [Dat] at h ⊢; exact h
  | .bool _, _, h => by simp only [Dat] at h ⊢; exact h
  | .int _, _, h => by simp only [Dat] at h ⊢; exact h
  | .str _, _, h => by simp only [Dat] at h ⊢; exact h
  | .list ds, _, h => by simp only [Dat] at h ⊢; obtain ⟨a, vs, e, q, r⟩ := h; exact ⟨a, vs, e, hl _ _ q, Dats.mono hl ht ds r⟩
  | .tuple ds, _, h => by simp only [Dat] at h ⊢; obtain ⟨a, vs, e, q, r⟩ := h; exact ⟨a, vs, e, ht _ _ q, Dats.mono hl ht ds r⟩
  | .dict _, _, h => by simp only [Dat] at h
theorem Dats.mono (hl : ∀ a xs, H a = some (HO.lst xs) → H' a = some (HO.lst xs)) (ht : ∀ a xs, H a = some (HO.tup xs) → H' a = some (HO.tup xs)) : ∀ (ds : List PyData) {vs : List V}, Dats H vs ds → Dats H' vs ds
  | [], [], _ => by simp only [Dats]
  | d :: ds, v :: vs, h => by simp only [Dats] at h ⊢; exact ⟨Dat.mono hl ht d h.1, Dats.mono hl ht ds h.2⟩
  | _ :: _, [], h => by simp only [Dats] at h
  | [], _ :: _, h => by simp only [Dats] at h
end
mutual
/-- no list within -/
def imm : PyData → Bool
  | .tuple ds => imms ds
  | .list _ | .dict _ => false
  | .none | .bool _ | .int _ | .str _ => true
def imms : List PyData → Bool
  | [] => true
  | d :: ds => imm d && imms ds
end
mutual
theorem Dat.keep (ht : ∀ a xs, H a = some (HO.tup xs) → H' a = some (HO.tup xs)) : ∀ (d : PyData) {v : V}, imm d = true → Dat H v d → Dat H' v d
  | .none, _, _, h => by simp only [Dat] at h ⊢; exact h
  | .bool _, _, _, h => by simp only [Dat] at h ⊢; exact h
  | .int _, _, _, h => by simp only [Dat] at h ⊢; exact h
  | .str _, _, _, h => by simp only [Dat] at h ⊢; exact h
  | .list ds, _, i, h => by simp only [imm] at i; cases i
  | .tuple ds, _, i, h => by simp only [Dat] at h ⊢; simp only [imm] at i; obtain ⟨a, vs, e, q, r⟩ := h; exact ⟨a, vs, e, ht _ _ q, Dats.keep ht ds i r⟩
  | .dict _, _, _, h => by simp only [Dat] at h
theorem Dats.keep (ht : ∀ a xs, H a = some (HO.tup xs) → H' a = some (HO.tup xs)) : ∀ (ds : List PyData) {vs : List V}, imms ds = true → Dats H vs ds → Dats H' vs ds
  | [], [], _, _ => by simp only [Dats]
  | d :: ds, v :: vs, i, h => by simp only [Dats] at h ⊢; simp only [imms, Bool.and_eq_true] at i; exact ⟨Dat.keep ht d i.1 h.1, Dats.keep ht ds i.2 h.2⟩
  | _ :: _, [], _, h => by simp only [Dats] at h
  | [], _ :: _, _, h => by simp only [Dats] at h
end
theorem imms_map {α : Type} (f : α → PyData) (h : ∀ x, imm (f x) = true) : ∀ l : List α, imms (l.map f) = true
  | [] => rfl
  | a :: l => by simp only [List.map_cons, imms, h a, imms_map f h l, Bool.and_self]
end

section
variable {X : Cx} {pins : List (Addr × Obj)} {σ : St} {H : Hp} {s : Shared}
mutual
theorem Inv.reads (I : Inv X pins σ H s) : ∀ (d : PyData) {v : V} {u : Value}, Dat H v d → RelV v u → ∃ as, Reads s.heap u d as
  | .none, v, u, h, r => by
    simp only [Dat] at h; subst h; cases (show u = Value.none from r); exact ⟨_, .none⟩
  | .bool b, v, u, h, r => by
    simp only [Dat] at h; subst h; cases (show u = Value.bool b from r); exact ⟨_, .bool b⟩
  | .int i, v, u, h, r => by
    simp only [Dat] at h; subst h; obtain ⟨t, q⟩ := (show ∃ t, u = Value.int i t from r); cases q; exact ⟨_, .int i t⟩
  | .str x, v, u, h, r => by
    simp only [Dat] at h; subst h; obtain ⟨t, q⟩ := (show ∃ t, u = Value.str x t from r); cases q; exact ⟨_, .str x t⟩
  | .list ds, v, u, h, r => by
    simp only [Dat] at h
    obtain ⟨a, vs, rfl, q, g⟩ := h
    cases (show u = Value.ref a from r)
    obtain ⟨its, rv, p, hz⟩ := I.list (SqL.of q)
    obtain ⟨o, ho, hc, n, hd⟩ := p.isList
    obtain ⟨as, ra⟩ := Inv.readsAll I ds g rv
    exact ⟨_, .list ho hc hd (by simpa using ra)⟩
  | .tuple ds, v, u, h, r => by
    simp only [Dat] at h
    obtain ⟨a, vs, rfl, q, g⟩ := h
    cases (show u = Value.ref a from r)
    obtain ⟨its, rv, p, hz⟩ := I.tuple (SqT.of q)
    obtain ⟨o, ho, hc, n, hd⟩ := p
    obtain ⟨as, ra⟩ := Inv.readsAll I ds g rv
    exact ⟨_, .tuple ho hc hd (by simpa using ra)⟩
  | .dict _, _, _, h, _ => by simp only [Dat] at h
theorem Inv.readsAll (I : Inv X pins σ H s) : ∀ (ds : List PyData) {vs : List V} {us : List Value}, Dats H vs ds → Vals vs us → ∃ as, ReadsAll s.heap us ds as
  | [], [], _, _, .nil => ⟨_, .nil⟩
  | d :: ds, v :: vs, _, h, .cons r rs => by
    simp only [Dats] at h
    obtain ⟨as, ra⟩ := Inv.reads I d h.1 r
    obtain ⟨bs, rb⟩ := Inv.readsAll I ds h.2 rs
    exact ⟨_, .cons ra rb⟩
  | _ :: _, [], _, h, _ => by simp only [Dats] at h
  | [], _ :: _, _, h, _ => by simp only [Dats] at h
end
/-- == and != of data -/
def rEqD (neg : Bool) : R2 := fun x y H Q => ∃ d e, Dat H x d ∧ Dat H y e ∧ SeqAt.shaped d = true ∧ SeqAt.shaped e = true ∧ Q (.bl (if neg then !PyData.eqv d e else PyData.eqv d e)) H
theorem op_eqD (hu : X.A.units + 64 < cLine) : OpR X (compareOp .Eq) (rEqD false) := by
  intro pins s σ H x y v u Q I rx ry h
  obtain ⟨d, e, h1, h2, s1, s2, q⟩ := h
  obtain ⟨as, ra⟩ := I.reads d h1 rx
  obtain ⟨bs, rb⟩ := I.reads e h2 ry
  exact SeqAt.compareEq_shaped ra rb s1 s2 hu ⟨.bl _, H, I, rfl, q⟩
theorem op_neD (hu : X.A.units + 64 < cLine) : OpR X (compareOp .NotEq) (rEqD true) := by
  intro pins s σ H x y v u Q I rx ry h
  obtain ⟨d, e, h1, h2, s1, s2, q⟩ := h
  obtain ⟨as, ra⟩ := I.reads d h1 rx
  obtain ⟨bs, rb⟩ := I.reads e h2 ry
  exact SeqAt.compareNe_shaped ra rb s1 s2 hu ⟨.bl _, H, I, rfl, q⟩

/-! ### isinstance -/
/-- isinstance(x, c): c's value is known -/
theorem call_isi {c : Value} {cv : V} (rc : RelV cv c) : CallR X (.builtin "isinstance") (fun xs H Q => ∃ x t b, xs = [x, cv] ∧ TyOf X.K H x t ∧ PySem.W.kitOne X.K t c = some b ∧ Q (.bl b) H) := by
  intro pins s σ H xs us Q I r h
  obtain ⟨x, t, b, rfl, ty, e, q⟩ := h
  obtain ⟨u, w', rfl, r1, r2⟩ := vals2 r
  have : w' = c := by
    cases cv with
    | non => exact (show w' = Value.none from r2).trans (show c = Value.none from rc).symm
    | bl b => exact (show w' = Value.bool b from r2).trans (show c = Value.bool b from rc).symm
    | ref a => exact (show w' = Value.ref a from r2).trans (show c = Value.ref a from rc).symm
    | ty n => exact (show w' = Value.type n from r2).trans (show c = Value.type n from rc).symm
    | int i => obtain ⟨t1, rfl⟩ := (show ∃ t, c = Value.int i t from rc); unfold PySem.W.kitOne at e; exact absurd e (by cases ty <;> simp [PySem.W.kitCls])
    | str i => obtain ⟨t1, rfl⟩ := (show ∃ t, c = Value.str i t from rc); unfold PySem.W.kitOne at e; exact absurd e (by cases ty <;> simp [PySem.W.kitCls])
    | byt i => obtain ⟨t1, rfl⟩ := (show ∃ t, c = Value.bytes i t from rc); unfold PySem.W.kitOne at e; exact absurd e (by cases ty <;> simp [PySem.W.kitCls])
    | flt i => obtain ⟨t1, rfl⟩ := (show ∃ t, c = Value.float i t from rc); unfold PySem.W.kitOne at e; exact absurd e (by cases ty <;> simp [PySem.W.kitCls])
  subst this
  exact isinst_ok I r1 ty e fun tk => ⟨.bl b, H, I.tok _, rfl, q⟩
end

/-! ### all, any over a list of bools -/
section
variable {prog : Program} {w : World} {A : Around}
theorem walks_list (hh : A.handled = none) (it a : Addr) (hne : it ≠ a) (its : List Value) : Walks prog w A it [it, a] [it] its.length (fun i v => its[i]? = some v) (fun i h => h.IsListIter it a i ∧ h.IsList a its.toArray) where
  sub := by simp
  frame := fun i h h' ⟨s1, o, ho, hc⟩ k => ⟨s1.at fun o e => k it (by simp) o e, o, k a (by simp) o ho, hc⟩
  item := fun i s Q E hi ⟨s1, s2⟩ hQ => wpAny_pyNext_list_item s1 s2 (x := its[i]) (by simp [hi]) fun h' st' sb =>
    hQ _ h' s.toks (by simp [hi]) ⟨st', s2.extBut sb.extBut hne.symm⟩ fun b o hb e => (sb.2 b (by simpa using hb)).trans e
  done := fun s Q E ⟨s1, s2⟩ hQ => wpAny_pyNext_list_end hh s1 s2 (by simp) fun h' eb => hQ h' s.toks fun b o hb e => eb b o (by simpa using hb) e
  self := fun i s Q E ⟨s1, _⟩ hQ => wpAny_pyIter_listiter s1 hQ
end
section
variable {X : Cx}
theorem range_all_get (bs : List Bool) : (List.range bs.length).all (fun i => (bs[i]?).getD false) = bs.all id := by
  rw [Bool.eq_iff_iff, List.all_eq_true, List.all_eq_true]
  constructor
  · intro h b hb
    obtain ⟨i, hi, rfl⟩ := List.getElem_of_mem hb
    have := h i (by simpa using hi)
    simpa [hi] using this
  · intro h i hi
    have hi' : i < bs.length := by simpa using hi
    simpa [hi'] using h bs[i] (List.getElem_mem hi')
theorem vals_bools {bs : List Bool} : ∀ {us : List Value}, Vals (bs.map V.bl) us → us = bs.map Value.bool := by
  induction bs with
  | nil => intro us r; cases r; rfl
  | cons b bs ih =>
    intro us r
    cases r with
    | cons r rs => cases (show _ = Value.bool b from r); rw [ih rs]; rfl
theorem call_all_bools (hc : X.calm = true) : CallR X (.builtin "all") (fun xs H Q => ∃ (p : Addr) (bs : List Bool), xs = [.ref p] ∧ SqL X.K H p (bs.map V.bl) ∧ Q (.bl (bs.all id)) H) := by
  intro pins s σ H xs us Q I r h
  obtain ⟨p, bs, rfl, hq, q⟩ := h
  obtain ⟨u, rfl, rx⟩ := vals1 r
  cases rx
  obtain ⟨its, rv, pl, hz⟩ := I.list hq
  have e := vals_bools rv
  have hlen : its.length = bs.length := by rw [e, List.length_map]
  refine call_all_walk (wpAny_pyIter_list pl.isList ⟨s.heap.objs.size, [s.heap.objs.size, p], [s.heap.objs.size], its.length, _, _, fun i => (bs[i]?).getD false, rfl,
    walks_list (show X.A.in1.handled = none from I.ok.hd hc) s.heap.objs.size p ?_ its, ⟨⟨_, Heap.get?_push_size _ rfl, rfl, rfl⟩, ?_⟩, ?_, ?_⟩)
  · intro z
    obtain ⟨o, ho, _⟩ := pl.isList
    have := Heap.lt_size ho
    rw [← z] at this
    exact Nat.lt_irrefl _ this
  · obtain ⟨o, ho, hcl⟩ := pl.isList
    exact ⟨o, Heap.get?_push_of_some _ ho, hcl⟩
  · intro i v s1 Q1 E1 hP hQ
    rw [e, List.getElem?_map] at hP
    cases r : bs[i]? with
    | none => rw [r] at hP; cases hP
    | some b =>
      rw [r] at hP
      cases hP
      simp only [r, Option.getD_some] at hQ
      exact wpAny_truthy_bool hQ
  · intro h' tk k
    rw [hlen, range_all_get]
    have f := I.fpOk (H' := H) (b := s.heap.objs.size) (Nat.le_refl _) (I.hok.fresh (Nat.le_refl _))
    have I2 : Inv X pins σ H { s with heap := h', toks := tk } := I.turned (h' := h') (t' := tk) (it := s.heap.objs.size) (fun b o hb e => k b o (by simpa using hb) (Heap.get?_push_of_some _ e)) f.1 f.2.1 f.2.2.2.1 f.2.2.2.2.1 f.2.2.2.2.2
    exact ⟨.bl _, H, I2, rfl, q⟩
end
end L2
set_option Elab.async false
set_option linter.all false
set_option maxRecDepth 100000
set_option maxHeartbeats 4000000
namespace L2
open PySem PySem.Spec PyProof.Rows

/-! ### a def of the text, called by its name; no exception leaves it -/
def FnAt (P : Program) (w : World) (K : PySem.W.Frag) (mg : Str → Option Value) (base : Heap) (k : Nat) (x : Str) (ps : List Str) (sp : Sp) : Prop :=
  ∃ f fd, FnOk P w K mg base CX0 k f fd ps sp ∧ mg x = some (.ref f) ∧ PySem.W.keepIn K (.ref f) = true ∧ Binds K fd ps []
section
variable {X : Cx} {k j : Nat} {x : Str} {ps : List Str} {sp : Sp} {e : Expr} {es : List Expr} {t : TA} {p pos : Pos}
theorem pe_fn (F : FnAt X.prog X.w X.K X.mg X.base k x ps sp) (hr : Room k X.A) (hg : Gl X x) (ha : PA X (e :: es) t) (hd : (x == ("__debug__" : Str)) = false := by decide)
    (he : starEach (e :: es) X.env = (false, eval e X.env) :: starEach es X.env := by rfl) (hpl : (backTo pos (starEach es X.env)).any (·.1) = false := by rfl) :
    PE X (.Call (.Name x p) (e :: es) [] pos) (tCall sp [] E0 t) := by
  obtain ⟨f, fd, G, hm, hk, hb⟩ := F
  exact pe_call G hr hg hm hk hb .nil pass0 ha (hdb := hd) (he := he) (hpl := hpl)
end

/-! ### what the built-in names are -/
theorem bt_abs : bootBuiltins "abs" = some (.builtin "abs") := by kernel_rfl
theorem bt_all : bootBuiltins "all" = some (.builtin "all") := by kernel_rfl
theorem bt_len : bootBuiltins "len" = some (.builtin "len") := by kernel_rfl
theorem bt_min : bootBuiltins "min" = some (.builtin "min") := by kernel_rfl
theorem bt_max : bootBuiltins "max" = some (.builtin "max") := by kernel_rfl
theorem bt_sorted : bootBuiltins "sorted" = some (.builtin "sorted") := by kernel_rfl
theorem bt_isinstance : bootBuiltins "isinstance" = some (.builtin "isinstance") := by kernel_rfl
theorem bt_int : bootBuiltins "int" = some (.type "int") := by kernel_rfl
theorem bt_bool : bootBuiltins "bool" = some (.type "bool") := by kernel_rfl
theorem bt_list : bootBuiltins "list" = some (.type "list") := by kernel_rfl
theorem bt_tuple : bootBuiltins "tuple" = some (.type "tuple") := by kernel_rfl
/-! ### a product whose size fits -/
section
variable {X : Cx}
theorem op_mulB : OpR X (binaryOp .Mult) (rI IntMulOk fun i j => .int (i * j)) := opI fun _ _ _ _ _ _ _ hc q => mul_int q hc
end

/-! ### heaps: what stays -/
/-- all stays but what stands at r -/
def Kp (r : Addr) (H H' : Hp) : Prop := ∀ b o, H b = some o → b ≠ r → H' b = some o
theorem Kp.of_same {r : Addr} {H H' : Hp} (h : Same H H') : Kp r H H' := fun b o e _ => h b o e
theorem Kp.trans {r : Addr} {H H1 H2 : Hp} (a : Kp r H H1) (b : Kp r H1 H2) : Kp r H H2 := fun c o h n => b c o (a c o h n) n
theorem Kp.refl (r : Addr) (H : Hp) : Kp r H H := fun _ _ h _ => h
theorem Kp.set {r : Addr} {H : Hp} {o : HO} : Kp r H (upd H r o) := fun b u e n => by rw [upd_ne n]; exact e
theorem same_new {H : Hp} {p : Addr} {o : HO} (h : H p = none) : Same H (upd H p o) := fun b u e => by rw [upd_ne (ne_of_none e h)]; exact e
theorem Same.tups {H H' : Hp} (e : Same H H') : ∀ a xs, H a = some (HO.tup xs) → H' a = some (HO.tup xs) := fun a xs h => e _ _ h
theorem Same.sqL {K : PySem.W.Frag} {H H' : Hp} (e : Same H H') : ∀ a xs, SqL K H a xs → SqL K H' a xs := fun a xs h => e.seq h
/-- a list at r: tuples are elsewhere -/
theorem Kp.tups {H H' : Hp} {r : Addr} {ys : List V} (e : Kp r H H') (hr : H r = some (.lst ys)) : ∀ a xs, H a = some (HO.tup xs) → H' a = some (HO.tup xs) := fun a xs h => e _ _ h (ne_of h hr (by intro z; cases z))
theorem Kp.tups' {H H' : Hp} {r : Addr} {kvs : List (Key × V)} (e : Kp r H H') (hr : H r = some (.dK kvs)) : ∀ a xs, H a = some (HO.tup xs) → H' a = some (HO.tup xs) := fun a xs h => e _ _ h (ne_of h hr (by intro z; cases z))
end L2

/-! ### the rules over K itself (a block's context has the same K) -/
namespace L2
open PySem PySem.Spec PyProof.Rows
section
variable {X : Cx} {K : PySem.W.Frag}
theorem ix_listK (h : X.K = K) : IxR X (rIxL K) := by subst h; exact ix_list
theorem ix_tupK (h : X.K = K) : IxR X (rIxT K) := by subst h; exact ix_tup
theorem sl_listK (h : X.K = K) : SlR X (rSlL K) := by subst h; exact sl_list
theorem sl_tupK (h : X.K = K) : SlR X (rSlT K) := by subst h; exact sl_tup
def rLen (K : PySem.W.Frag) : List V → Hp → VK → Prop := fun xs H Q => ∃ (p : Addr) (ys : List V), xs = [.ref p] ∧ (SqL K H p ys ∨ SqT K H p ys) ∧ Q (.int ys.length) H
theorem call_len_seqK (h : X.K = K) : CallR X (.builtin "len") (rLen K) := by subst h; exact call_len_seq
def rListOf (K : PySem.W.Frag) : List V → Hp → VK → Prop := fun xs H Q => ∃ (p : Addr) (ys : List V), xs = [.ref p] ∧ (SqL K H p ys ∨ SqT K H p ys) ∧ ∀ l, H l = none → Q (.ref l) (upd H l (.lst ys))
theorem call_list_ofK (h : X.K = K) : CallR X (.type "list") (rListOf K) := by subst h; exact call_list_of
def rAllB (K : PySem.W.Frag) : List V → Hp → VK → Prop := fun xs H Q => ∃ (p : Addr) (bs : List Bool), xs = [.ref p] ∧ SqL K H p (bs.map V.bl) ∧ Q (.bl (bs.all id)) H
theorem call_all_boolsK (h : X.K = K) (hc : X.calm = true) : CallR X (.builtin "all") (rAllB K) := by subst h; exact call_all_bools hc
theorem op_eqDK (h : X.K = K) (hu : X.A.units + 64 < cLine) : OpR X (compareOp .Eq) (rEqD false) := by subst h; exact op_eqD hu
theorem op_neDK (h : X.K = K) (hu : X.A.units + 64 < cLine) : OpR X (compareOp .NotEq) (rEqD true) := by subst h; exact op_neD hu
theorem pi_listK {tg l : Expr} {tl : TE} (h : X.K = K) (hl : PE X l tl) : PI X tg l (iList K tl) := by subst h; exact pi_list hl
theorem pi_tupK {tg l : Expr} {tl : TE} (h : X.K = K) (hl : PE X l tl) : PI X tg l (iTup K tl) := by subst h; exact pi_tup hl
def rIsi (K : PySem.W.Frag) (c : Value) (cv : V) : List V → Hp → VK → Prop := fun xs H Q => ∃ x t b, xs = [x, cv] ∧ TyOf K H x t ∧ PySem.W.kitOne K t c = some b ∧ Q (.bl b) H
theorem call_isiK {c : Value} {cv : V} (h : X.K = K) (rc : RelV cv c) : CallR X (.builtin "isinstance") (rIsi K c cv) := by subst h; exact call_isi rc
theorem pe_appendK {o e : Expr} {to : TE} {t : TA} {apos cpos : Pos} (h : X.K = K) (ho : PE X o to) (ha : PA X [e] t)
    (hbase : attributeBase o "append" X.env (eval o X.env) = eval o X.env := by rfl)
    (hfew : ((backTo cpos (starEach [e] X.env)).all (fun x => !x.1) && (backToKw cpos (keywordEach [] X.env)).all (fun x => x.1.isSome)
      && decide (([e] : List Expr).length + ([] : List Keyword).length + (if ([] : List Keyword).isEmpty then 0 else 1) < 30)) = true := by rfl)
    (hline : (apos.endLine == cpos.line) = true := by rfl) (hs : starEach [e] X.env = (false, eval e X.env) :: starEach [] X.env := by rfl) (hplain : (backTo cpos (starEach [] X.env)).any (·.1) = false := by rfl) :
    PE X (.Call (.Attribute o "append" apos) [e] [] cpos) (tBM K "list" rAppend to t) := by
  subst h
  exact pe_bm PySem.F.plainAttrs_list PySem.F.slot_list_append PySem.F.type_list_append mt_append ho ha hbase hfew hline hs hplain
end
end L2
namespace L2
open PySem
/-! ### comprehensions by their invariant -/
section
variable {K : PySem.W.Frag} {a D : Addr} {xs : List V} {g : TG} {tc : TT} {te : TE} {Q : VK} {σ0 : St} {H1 : Hp}
/-- over a list that the block leaves as it is -/
theorem comp_list (Pv : Nat → St → Hp → Prop) (h0 : Pv 0 σ0 (upd H1 D (.lst []))) (hl : ∀ i σ H, i ≤ xs.length → Pv i σ H → SqL K H a xs)
    (hs : ∀ i x σ H, xs[i]? = some x → Pv i σ H → g x σ H fun σ2 H2 => tc σ2 H2 fun b H3 =>
      if b = true then te σ2 H3 fun y H4 => ∃ acc, H4 D = some (.lst acc) ∧ acc.length < sizeLine ∧ Pv (i + 1) σ2 (upd H4 D (.lst (acc ++ [y]))) else Pv (i + 1) σ2 H3)
    (hd : ∀ σ H, Pv xs.length σ H → Q (.ref D) H) : CompW (Itl K a) g tc te Q D σ0 H1 := by
  refine ⟨fun i m σ H => m = xs.length - i ∧ i ≤ xs.length ∧ Pv i σ H, ⟨xs.length, by simp, Nat.zero_le _, h0⟩, ?_⟩
  rintro i m σ H ⟨rfl, hi, p⟩
  have q := hl i σ H hi p
  by_cases hlt : i < xs.length
  · refine .inr ⟨⟨xs, xs[i], q, by simp [hlt]⟩, Pv (i + 1), fun σ' H' p' => ⟨xs.length - (i + 1), by omega, rfl, hlt, p'⟩, fun x H' y => ?_⟩
    obtain ⟨e, y⟩ := y
    subst e
    exact hs i x σ _ (y xs q) p
  · have e : i = xs.length := by omega
    subst e
    exact .inl ⟨⟨xs, q, Nat.le_refl _⟩, hd σ H p⟩
theorem comp_tup (Pv : Nat → St → Hp → Prop) (h0 : Pv 0 σ0 (upd H1 D (.lst []))) (hl : ∀ i σ H, i ≤ xs.length → Pv i σ H → SqT K H a xs)
    (hs : ∀ i x σ H, xs[i]? = some x → Pv i σ H → g x σ H fun σ2 H2 => tc σ2 H2 fun b H3 =>
      if b = true then te σ2 H3 fun y H4 => ∃ acc, H4 D = some (.lst acc) ∧ acc.length < sizeLine ∧ Pv (i + 1) σ2 (upd H4 D (.lst (acc ++ [y]))) else Pv (i + 1) σ2 H3)
    (hd : ∀ σ H, Pv xs.length σ H → Q (.ref D) H) : CompW (Itt K a) g tc te Q D σ0 H1 := by
  refine ⟨fun i m σ H => m = xs.length - i ∧ i ≤ xs.length ∧ Pv i σ H, ⟨xs.length, by simp, Nat.zero_le _, h0⟩, ?_⟩
  rintro i m σ H ⟨rfl, hi, p⟩
  have q := hl i σ H hi p
  by_cases hlt : i < xs.length
  · refine .inr ⟨⟨xs, xs[i], q, by simp [hlt]⟩, Pv (i + 1), fun σ' H' p' => ⟨xs.length - (i + 1), by omega, rfl, hlt, p'⟩, fun x H' y => ?_⟩
    obtain ⟨e, y⟩ := y
    subst e
    exact hs i x σ _ (y xs q) p
  · have e : i = xs.length := by omega
    subst e
    exact .inl ⟨⟨xs, q, Nat.le_refl _⟩, hd σ H p⟩
theorem comp_range {lo : Int} {n : Nat} (Pv : Nat → St → Hp → Prop) (h0 : Pv 0 σ0 (upd H1 D (.lst [])))
    (hs : ∀ i σ H, i < n → Pv i σ H → g (.int (lo + i)) σ H fun σ2 H2 => tc σ2 H2 fun b H3 =>
      if b = true then te σ2 H3 fun y H4 => ∃ acc, H4 D = some (.lst acc) ∧ acc.length < sizeLine ∧ Pv (i + 1) σ2 (upd H4 D (.lst (acc ++ [y]))) else Pv (i + 1) σ2 H3)
    (hd : ∀ σ H, Pv n σ H → Q (.ref D) H) : CompW (Itr lo n) g tc te Q D σ0 H1 := by
  refine ⟨fun i m σ H => m = n - i ∧ i ≤ n ∧ Pv i σ H, ⟨n, by simp, Nat.zero_le _, h0⟩, ?_⟩
  rintro i m σ H ⟨rfl, hi, p⟩
  by_cases hlt : i < n
  · refine .inr ⟨hlt, Pv (i + 1), fun σ' H' p' => ⟨n - (i + 1), by omega, rfl, hlt, p'⟩, fun x H' y => ?_⟩
    obtain ⟨e, y⟩ := y
    subst e y
    exact hs i σ _ hlt p
  · have e : i = n := by omega
    subst e
    exact .inl ⟨Nat.le_refl _, hd σ H p⟩
end
end L2
set_option Elab.async false
set_option linter.all false
set_option maxRecDepth 100000
set_option maxHeartbeats 4000000
namespace L2
open PySem PySem.Spec PyProof.Rows
/-! ### lists of data: shape and equality -/
section
variable {α : Type} (f : α → PyData)
theorem canAll_map : ∀ (l : List α), (∀ x ∈ l, (f x).canLay0 = true) → PyData.canLayAll0 (l.map f) = true
  | [], _ => rfl
  | a :: l, h => by
    show (PyData.canLay0 (f a) && PyData.canLayAll0 (l.map f)) = true
    rw [h a List.mem_cons_self, canAll_map l fun x hx => h x (List.mem_cons_of_mem _ hx)]; rfl
theorem depthAll_map (k : Nat) : ∀ (l : List α), (∀ x ∈ l, (f x).depth ≤ k) → PyData.depthAll (l.map f) ≤ k
  | [], _ => Nat.zero_le _
  | a :: l, h => by
    show max (PyData.depth (f a)) (PyData.depthAll (l.map f)) ≤ k
    exact Nat.max_le.mpr ⟨h a List.mem_cons_self, depthAll_map k l fun x hx => h x (List.mem_cons_of_mem _ hx)⟩
theorem shaped_list {l : List α} (k : Nat) (hk : k < 64) (h1 : ∀ x ∈ l, (f x).canLay0 = true) (h2 : ∀ x ∈ l, (f x).depth ≤ k) : SeqAt.shaped (.list (l.map f)) = true := by
  unfold SeqAt.shaped
  have e1 : PyData.canLay0 (.list (l.map f)) = true := canAll_map f l h1
  have e2 : PyData.depth (.list (l.map f)) ≤ 64 := by
    show PyData.depthAll (l.map f) + 1 ≤ 64
    have := depthAll_map f k l h2
    omega
  rw [e1, decide_eq_true e2]; rfl
theorem eqvAll_map [DecidableEq α] (h : ∀ x y, PyData.eqv (f x) (f y) = decide (x = y)) : ∀ (l m : List α), PyData.eqvAll (l.map f) (m.map f) = decide (l = m)
  | [], [] => rfl
  | [], _ :: _ => by simp only [List.map_nil, List.map_cons, PyData.eqvAll]; exact (decide_eq_false (by intro z; cases z)).symm
  | _ :: _, [] => by simp only [List.map_nil, List.map_cons, PyData.eqvAll]; exact (decide_eq_false (by intro z; cases z)).symm
  | a :: l, b :: m => by
    simp only [List.map_cons, PyData.eqvAll]
    rw [h a b, eqvAll_map h l m]
    by_cases e1 : a = b
    · subst e1
      by_cases e2 : l = m
      · subst e2; simp
      · simp [e2]
    · simp [e1]
theorem eqv_list [DecidableEq α] (h : ∀ x y, PyData.eqv (f x) (f y) = decide (x = y)) (l m : List α) : PyData.eqv (.list (l.map f)) (.list (m.map f)) = decide (l = m) := by
  simp only [PyData.eqv]; exact eqvAll_map f h l m
end
theorem dat_list {H : Hp} {a : Addr} {vs : List V} {ds : List PyData} (h : H a = some (.lst vs)) (d : Dats H vs ds) : Dat H (.ref a) (.list ds) := by
  simp only [Dat]
  exact ⟨a, vs, rfl, h, d⟩
theorem isi_int_int (K : PySem.W.Frag) : PySem.W.kitOne K (.type "int") (.type "int") = some true := rfl
theorem isi_int_bool (K : PySem.W.Frag) : PySem.W.kitOne K (.type "int") (.type "bool") = some false := by kernel_rfl
theorem isi_tuple_tuple (K : PySem.W.Frag) : PySem.W.kitOne K (.type "tuple") (.type "tuple") = some true := rfl
theorem isi_bool_bool (K : PySem.W.Frag) : PySem.W.kitOne K (.type "bool") (.type "bool") = some true := rfl
end L2
namespace L2
open PySem
theorem cut_take (xs : List V) (k : Nat) : cutV xs none (some (k : Int)) = xs.take k := by
  unfold cutV
  rw [HT.sIx_none, HT.sIx_nat, List.drop_zero, Nat.sub_zero]
  by_cases h : k ≤ xs.length
  · rw [Nat.min_eq_left h]
  · rw [Nat.min_eq_right (by omega), List.take_of_length_le (Nat.le_refl _), List.take_of_length_le (by omega)]
theorem cut_drop (xs : List V) (k : Nat) : cutV xs (some (k : Int)) none = xs.drop k := by
  unfold cutV
  rw [HT.sIx_none, HT.sIx_nat]
  by_cases h : k ≤ xs.length
  · rw [Nat.min_eq_left h, List.take_of_length_le (by rw [List.length_drop]; exact Nat.le_refl _)]
  · rw [Nat.min_eq_right (by omega), Nat.sub_self, List.take_zero, List.drop_of_length_le (by omega)]
end L2
set_option Elab.async false
set_option linter.all false
set_option maxRecDepth 100000
set_option maxHeartbeats 4000000
namespace PySem.W
open PySem PySem.Spec PySem.Calls PyProof.Rows
section
variable {prog : Program} {w : World} {A : Around} {E : Value → Shared → Prop} {s : Shared} {K : Frag} {x D : Addr} {ox : Obj} {odo : Option Obj} {name : Str}
end
end PySem.W
set_option Elab.async false
set_option linter.all false
set_option maxRecDepth 100000
set_option maxHeartbeats 4000000
namespace L2
open PySem PySem.Spec PyProof.Rows

/-! ### an exception and its record -/
section
variable {M : Model} {A : Around} {E : Value → Shared → Prop} {s : Shared} {base : Heap} {env : Env} {outer : List Env} {L e : Addr}
end

section
variable {X : Cx} {pins : List (Addr × Obj)} {σ : St} {H : Hp} {s : Shared} {e : Addr}
end
end L2
set_option Elab.async false
set_option linter.all false
set_option maxRecDepth 100000
set_option maxHeartbeats 4000000
namespace L2
open PySem PySem.Spec PyProof.Rows

/-! ### calls that may raise -/
section
variable {X : Cx} {k : Nat} {x : Str} {ps : List Str} {sp : Sp} {e : Expr} {es : List Expr} {t : TA} {p pos : Pos} {E : St → XK}
end
section
variable {P : Program} {w : World} {K : PySem.W.Frag} {mg : Str → Option Value} {base : Heap}
end

/-! ### raise C(..), C an own class without an __init__ -/
section
variable {X : Cx} {E : St → XK} {x : Str} {C : Addr} {B newId initId : String} {bmB : List Value} {e0 : Expr} {rest : List Expr} {ta : TA} {np cpos pos : Pos}
end

/-! ### try: .. except C as n: .. -/
section
variable {X : Cx} {pins : List (Addr × Obj)} {σ : St} {H : Hp} {s : Shared}
end

section
variable {M : Model} {A : Around} {Er : Value → Shared → Prop} {s : Shared} {K : PySem.W.Frag} {e C D : Addr}
end
end L2
set_option Elab.async false
set_option linter.all false
set_option maxRecDepth 100000
set_option maxHeartbeats 4000000
namespace L2
open PySem PySem.Spec PyProof.Rows
section
variable {X : Cx} {pins : List (Addr × Obj)} {σ : St} {H : Hp} {s : Shared}
end

section
variable {X : Cx} {body suite : List Stmt} {b0 : Stmt} {n cn : Str} {i : Nat} {Dc : Addr} {tb : (St → XK) → TS} {th : TS} {cp hpos pos : Pos}
end

/-! ### isinstance of a caught exception -/
section
variable {X : Cx} {K : PySem.W.Frag}
end
end L2
set_option Elab.async false
set_option linter.all false
set_option maxRecDepth 100000
set_option maxHeartbeats 4000000
namespace L2
open PySem PySem.Spec PyProof.Rows
section
variable {X : Cx} {K : PySem.W.Frag}
end
end L2
namespace L2
open PySem
end L2
set_option Elab.async false
set_option linter.all false
set_option maxRecDepth 100000
set_option maxHeartbeats 4000000
namespace L2
open PySem PySem.Spec PyProof.Rows

/-! ### several objects of an iterator turn -/
section
variable {X : Cx} {pins : List (Addr × Obj)} {σ : St} {H : Hp} {s : Shared} {h' : Heap}
theorem Inv.turnedL {t' : Nat} {fp : List Addr} (I : Inv X pins σ H s) (hf : ∀ b ∈ fp, FpOk X pins H b) (k : ∀ b o, b ∉ fp → s.heap.get? b = some o → h'.get? b = some o) : Inv X pins σ H { s with heap := h', toks := t' } := by
  have nit : ∀ b u, H b = some u → b ∉ fp := fun b u e z => by rw [(hf b z).1] at e; cases e
  refine I.step (g' := s.gens) (d' := s.drawn) (ch := fp) (fun b hb => ?_) (fun b o _ _ hc e _ => k b o hc e) (fun b o _ _ hc e _ => ⟨o.slots, k b o hc e⟩) (fun _ _ _ _ n => n)
    (fun b o hc e => ⟨o, k b o hc e⟩) (fun _ _ e => e) (fun _ _ _ e => e) (fun b ps e => ⟨#[], by rw [e]; simp⟩) (fun m hm => ?_) (fun b u e => ?_) I.bare
  · obtain ⟨f0, f1, f2, f3, f4, f5⟩ := hf b hb
    exact ⟨f3, f1, f4, f5⟩
  · obtain ⟨o, es, ep, ho, r⟩ := hm
    exact ⟨o, es, ep, k _ o (fun z => (hf _ z).2.1 rfl) ho, r⟩
  · refine (I.hok b u e).stay (fun c v hc q => k c v ?_ q) (fun _ q => q) fun _ _ q => q
    rcases hc with z | z
    · rw [z]; exact nit b u e
    · exact nit c _ z
theorem FpOk.upd {b p : Addr} {o : HO} (h : FpOk X pins H b) (n : b ≠ p) : FpOk X pins (upd H p o) b := by
  obtain ⟨f0, r⟩ := h
  exact ⟨by rw [upd_ne n]; exact f0, r⟩
theorem get_push {h : Heap} {o u : Obj} {b : Addr} (ho : o.isFreed = false) (e : (h.push o).get? b = some u) : (b = h.objs.size ∧ u = o) ∨ h.get? b = some u := by
  by_cases hb : b = h.objs.size
  · subst hb
    rw [Heap.get?_push_size _ ho] at e
    exact .inl ⟨rfl, (Option.some.inj e).symm⟩
  · refine .inr ?_
    have lt := Heap.lt_size e
    have lt2 : b < h.objs.size := by
      have : (h.push o).objs.size = h.objs.size + 1 := by simp [Heap.push]
      rw [this] at lt
      exact Nat.lt_of_le_of_ne (Nat.le_of_lt_succ lt) hb
    have : (h.push o).get? b = h.get? b := by
      simp only [Heap.get?, Heap.push]
      rw [Array.getElem?_push_lt lt2, Array.getElem?_eq_getElem lt2]
    rw [← this]
    exact e
end

/-! ### enumerate -/
def Ite (K : PySem.W.Frag) (l : Addr) : It :=
  ⟨fun i H => ∃ xs x, SqL K H l xs ∧ xs[i]? = some x, fun i H x H' => ∃ (p : Addr) (y : V), x = .ref p ∧ H p = none ∧ (∀ xs, SqL K H l xs → xs[i]? = some y) ∧ H' = upd H p (.tup [.int i, y]), fun i H => ∃ xs, SqL K H l xs ∧ xs.length ≤ i⟩
theorem turn_enum {P : Program} {w : World} {K : PySem.W.Frag} {elts : List Expr} {x1 : Nat} {pos : Pos} (l e it : Addr) (hne : e ≠ it) : Turn P w K (.Tuple elts x1 pos) (Ite K l) [e, it] e (fun i h => (∃ old, IsEnum h e it i old) ∧ h.IsListIter it l i) where
  mem := by simp
  obj := fun i h st b hb => by
    obtain ⟨⟨old, he⟩, o, ho, c, d⟩ := st
    have hb' : b = e ∨ b = it := by simpa using hb
    rcases hb' with rfl | rfl
    · exact ⟨_, he, fun v z => by cases z⟩
    · exact ⟨o, ho, fun v z => by rw [d] at z; cases z⟩
  keep := fun i h h' st k => by
    obtain ⟨⟨old, he⟩, o, ho, c, d⟩ := st
    exact ⟨⟨old, k e (by simp) _ he⟩, o, k it (by simp) _ ho, c, d⟩
  item := by
    intro X hP hw hK hc i pins s σ H E I hf st hg
    subst hP hw hK
    obtain ⟨xs, x, hq, hx⟩ := hg
    obtain ⟨its, rv, p, hz⟩ := I.list hq
    obtain ⟨u, hu, ru⟩ := rv.get hx
    obtain ⟨⟨old, he⟩, hi⟩ := st
    have elt := Heap.lt_size he
    have ilt : it < s.heap.objs.size := by obtain ⟨o, ho, _⟩ := id hi; exact Heap.lt_size ho
    refine wpAny_pyNext_enum_item he hi p.isList (x := u) (by simpa using hu) hne fun h' hout hit htup hsz hk => ?_
    refine ⟨_, rfl, ?_⟩
    refine wpAny_letOwnedTupleGo_enum hout fun h2 he2 sb => ?_
    have hfr : H s.heap.objs.size = none := I.hok.fresh (Nat.le_refl _)
    have I0 : Inv X pins σ (upd H s.heap.objs.size (.tup [.int i, x])) { s with heap := s.heap.push { cls := .type "tuple", data := .seq #[.int i s.toks, u] } } :=
      I.laid (t' := s.toks) (fun b u e => Heap.get?_push_of_some _ e) (Nat.le_refl _) ⟨by show 2 ≤ sizeLine; decide, [.int i s.toks, u], .cons ⟨_, rfl⟩ (.cons ru .nil), ⟨_, Heap.get?_push_size _ rfl, rfl, _, rfl⟩⟩
    have ne1 : e ≠ s.heap.objs.size := Nat.ne_of_lt elt
    have ne2 : it ≠ s.heap.objs.size := Nat.ne_of_lt ilt
    have hf0 : ∀ b ∈ [e, it], FpOk X pins (upd H s.heap.objs.size (.tup [.int i, x])) b := fun b hb => by
      have hb' : b = e ∨ b = it := by simpa using hb
      rcases hb' with rfl | rfl
      · exact (hf _ (by simp)).upd ne1
      · exact (hf _ (by simp)).upd ne2
    have I1 := I0.turnedL (h' := h2) (t' := s.toks + 1) hf0 (fun b o hb eb => by
      have b1 : b ≠ e := fun z => hb (by simp [z])
      have b2 : b ≠ it := fun z => hb (by simp [z])
      rw [sb.2 b b1]
      rcases get_push rfl eb with ⟨rfl, rfl⟩ | eb
      · exact htup
      · exact hk b o b1 b2 eb)
    refine ⟨.ref s.heap.objs.size, _, I1, rfl, ⟨s.heap.objs.size, x, rfl, hfr, fun ys hy => by rw [I.list_inj hy hq]; exact hx, rfl⟩, ⟨⟨u, he2⟩, ?_⟩, fun b hb => (hf0 b hb).1⟩
    obtain ⟨o, ho, c, d⟩ := hit
    exact ⟨o, (sb.2 it (Ne.symm hne)).trans ho, c, d⟩
  done := by
    intro X hP hw hK hc i pins s σ H E I hf st hg
    subst hP hw hK
    obtain ⟨xs, hq, hx⟩ := hg
    obtain ⟨its, rv, p, hz⟩ := I.list hq
    obtain ⟨⟨old, he⟩, hi⟩ := st
    have hl := rv.length
    exact wpAny_pyNext_enum_end (I.ok.hd hc) he hi p.isList (by simp; omega) fun h' eb => ⟨rfl, I.turnedL (t' := s.toks) hf (fun b o hb e => eb b o (fun z => hb (by simp [z])) e)⟩
  self := fun _ _ _ _ _ st h => by
    obtain ⟨⟨old, he⟩, _⟩ := st
    exact wpAny_pyIter_enum he h
section
variable {X : Cx}
def iEnum (K : PySem.W.Frag) (ta : TA) : TI := fun σ H R => ta σ H fun vs H1 => ∃ l xs, vs = [.ref l] ∧ SqL K H1 l xs ∧ R (Ite K l) H1
theorem bt_enumerate : bootBuiltins "enumerate" = some (.type "enumerate") := by kernel_rfl
theorem pi_enumK {K : PySem.W.Frag} {a : Expr} {ta : TA} {p pos : Pos} {elts : List Expr} {x1 : Nat} {tpos : Pos} (hK : X.K = K) (hg : Gl X "enumerate") (hm : X.mg "enumerate" = none) (ha : PA X [a] ta) (hs : starEach [a] X.env = [(false, eval a X.env)] := by rfl) : PI X (.Tuple elts x1 tpos) (.Call (.Name "enumerate" p) [a] [] pos) (iEnum K ta) := by
  subst hK
  intro pins s σ H R I h
  refine Call_ (ld_blt I hg hm bt_enumerate (PyProof.Rows.callWith_type1 (thn (ha pos pins s σ H _ I h) fun us s1 ⟨vs, H1, I1, r1, q1⟩ => ?_) hs rfl))
  obtain ⟨l, xs, e, hq, q⟩ := q1
  subst e
  cases r1 with
  | cons r rr =>
    cases rr
    cases r
    obtain ⟨its, rv, pl, hz⟩ := I1.list hq
    refine call_enumerate_list pl.isList fun h' hE hI hsz hk => ?_
    refine wpAny_pyIter_enum hE ?_
    have I2 : Inv X pins σ H1 { s1 with heap := h' } := I1.kept (t' := s1.toks) hk
    refine ⟨s1.heap.objs.size + 1, [s1.heap.objs.size + 1, s1.heap.objs.size], _, _, H1, rfl, I2, turn_enum l _ _ (by simp), ⟨⟨_, hE⟩, hI⟩, fun b hb => ?_, q⟩
    have hb' : b = s1.heap.objs.size + 1 ∨ b = s1.heap.objs.size := by simpa using hb
    rcases hb' with rfl | rfl
    · exact I1.fpOk (Nat.le_succ _) (I1.hok.fresh (Nat.le_succ _))
    · exact I1.fpOk (Nat.le_refl _) (I1.hok.fresh (Nat.le_refl _))
end

/-! ### zip of two lists -/
def Itz (K : PySem.W.Frag) (l1 l2 : Addr) : It :=
  ⟨fun i H => ∃ xs ys x y, SqL K H l1 xs ∧ SqL K H l2 ys ∧ xs[i]? = some x ∧ ys[i]? = some y,
   fun i H x H' => ∃ (p : Addr) (y z : V), x = .ref p ∧ H p = none ∧ (∀ xs, SqL K H l1 xs → xs[i]? = some y) ∧ (∀ ys, SqL K H l2 ys → ys[i]? = some z) ∧ H' = upd H p (.tup [y, z]),
   fun i H => ∃ xs ys, SqL K H l1 xs ∧ SqL K H l2 ys ∧ (xs.length ≤ i ∨ ys.length ≤ i)⟩
theorem turn_zip {P : Program} {w : World} {K : PySem.W.Frag} {elts : List Expr} {x1 : Nat} {pos : Pos} (z TI TO i1 i2 l1 l2 : Addr) (ap : ZipApart z TI TO i1 i2 l1 l2) : Turn P w K (.Tuple elts x1 pos) (Itz K l1 l2) [z, TI, TO, i1, i2] z
    (fun i h => IsZip h z TI TO .none ∧ IsPair h TI (.ref i1) (.ref i2) ∧ (∃ a b, IsPair h TO a b) ∧ h.IsListIter i1 l1 i ∧ h.IsListIter i2 l2 i) where
  mem := by simp
  obj := fun i h st b hb => by
    obtain ⟨hz, hTI, ⟨a, c, hTO⟩, ⟨o1, h1, c1, d1⟩, ⟨o2, h2, c2, d2⟩⟩ := st
    have hb' : b = z ∨ b = TI ∨ b = TO ∨ b = i1 ∨ b = i2 := by simpa using hb
    rcases hb' with rfl | rfl | rfl | rfl | rfl
    · exact ⟨_, hz, fun v z => by cases z⟩
    · exact ⟨_, hTI, fun v z => by cases z⟩
    · exact ⟨_, hTO, fun v z => by cases z⟩
    · exact ⟨_, h1, fun v z => by rw [d1] at z; cases z⟩
    · exact ⟨_, h2, fun v z => by rw [d2] at z; cases z⟩
  keep := fun i h h' st k => by
    obtain ⟨hz, hTI, ⟨a, c, hTO⟩, ⟨o1, h1, c1, d1⟩, ⟨o2, h2, c2, d2⟩⟩ := st
    exact ⟨k z (by simp) _ hz, k TI (by simp) _ hTI, ⟨a, c, k TO (by simp) _ hTO⟩, ⟨o1, k i1 (by simp) _ h1, c1, d1⟩, ⟨o2, k i2 (by simp) _ h2, c2, d2⟩⟩
  item := by
    intro X hP hw hK hc i pins s σ H E I hf st hg
    subst hP hw hK
    obtain ⟨xs, ys, x, y, hq1, hq2, hx, hy⟩ := hg
    obtain ⟨its1, rv1, p1, hz1⟩ := I.list hq1
    obtain ⟨its2, rv2, p2, hz2⟩ := I.list hq2
    obtain ⟨u1, hu1, ru1⟩ := rv1.get hx
    obtain ⟨u2, hu2, ru2⟩ := rv2.get hy
    obtain ⟨hz, hTI, ⟨a, c, hTO⟩, hi1, hi2⟩ := st
    have zlt := Heap.lt_size hz
    have TIlt := Heap.lt_size hTI
    have TOlt := Heap.lt_size hTO
    have i1lt : i1 < s.heap.objs.size := by obtain ⟨o, ho, _⟩ := id hi1; exact Heap.lt_size ho
    have i2lt : i2 < s.heap.objs.size := by obtain ⟨o, ho, _⟩ := id hi2; exact Heap.lt_size ho
    refine wpAny_pyNext_zip_item ap hz hTI hTO hi1 hi2 p1.isList p2.isList (x := u1) (y := u2) (by simpa using hu1) (by simpa using hu2) fun h' hz' hTO' hi1' hi2' hnew hsz hk => ?_
    refine ⟨_, rfl, ?_⟩
    refine wpAny_letOwnedTupleGo_zip hz' fun h2 hz2' sb => ?_
    have hfr : H s.heap.objs.size = none := I.hok.fresh (Nat.le_refl _)
    have I0 : Inv X pins σ (upd H s.heap.objs.size (.tup [x, y])) { s with heap := s.heap.push { cls := .type "tuple", data := .seq #[u1, u2] } } :=
      I.laid (t' := s.toks) (fun b u e => Heap.get?_push_of_some _ e) (Nat.le_refl _) ⟨by show 2 ≤ sizeLine; decide, [u1, u2], .cons ru1 (.cons ru2 .nil), ⟨_, Heap.get?_push_size _ rfl, rfl, _, rfl⟩⟩
    have hf0 : ∀ b ∈ [z, TI, TO, i1, i2], FpOk X pins (upd H s.heap.objs.size (.tup [x, y])) b := fun b hb => by
      refine (hf b hb).upd ?_
      have hb' : b = z ∨ b = TI ∨ b = TO ∨ b = i1 ∨ b = i2 := by simpa using hb
      rcases hb' with rfl | rfl | rfl | rfl | rfl
      · exact Nat.ne_of_lt zlt
      · exact Nat.ne_of_lt TIlt
      · exact Nat.ne_of_lt TOlt
      · exact Nat.ne_of_lt i1lt
      · exact Nat.ne_of_lt i2lt
    have I1 := I0.turnedL (h' := h2) (t' := s.toks) hf0 (fun b o hb eb => by
      have b1 : b ≠ z := fun e => hb (by simp [e])
      have b2 : b ≠ TO := fun e => hb (by simp [e])
      have b3 : b ≠ i1 := fun e => hb (by simp [e])
      have b4 : b ≠ i2 := fun e => hb (by simp [e])
      rw [sb.2 b b1]
      rcases get_push rfl eb with ⟨rfl, rfl⟩ | eb
      · exact hnew
      · exact hk b o b1 b2 b3 b4 eb)
    refine ⟨.ref s.heap.objs.size, _, I1, rfl, ⟨s.heap.objs.size, x, y, rfl, hfr, fun ys hy => by rw [I.list_inj hy hq1]; exact hx, fun ys' hy' => by rw [I.list_inj hy' hq2]; exact hy, rfl⟩, ?_, fun b hb => (hf0 b hb).1⟩
    obtain ⟨o1, ho1, c1, d1⟩ := hi1'
    obtain ⟨o2, ho2, c2, d2⟩ := hi2'
    exact ⟨hz2', (sb.2 TI ap.TIz).trans (hk TI _ ap.TIz ap.TITO ap.TIi1 ap.TIi2 hTI), ⟨_, _, (sb.2 TO ap.TOz).trans hTO'⟩, ⟨o1, (sb.2 i1 ap.i1z).trans ho1, c1, d1⟩, ⟨o2, (sb.2 i2 ap.i2z).trans ho2, c2, d2⟩⟩
  done := by
    intro X hP hw hK hc i pins s σ H E I hf st hg
    subst hP hw hK
    obtain ⟨xs, ys, hq1, hq2, hx⟩ := hg
    obtain ⟨its1, rv1, p1, hz1⟩ := I.list hq1
    obtain ⟨its2, rv2, p2, hz2⟩ := I.list hq2
    obtain ⟨hz, hTI, ⟨a, c, hTO⟩, hi1, hi2⟩ := st
    have hl1 := rv1.length
    have hl2 := rv2.length
    refine wpAny_pyNext_zip_end (I.ok.hd hc) ap hz hTI hTO hi1 hi2 p1.isList p2.isList ?_ fun h' eb => ⟨rfl, I.turnedL (t' := s.toks) hf (fun b o hb e => eb b o (fun z => hb (by simp [z])) (fun z => hb (by simp [z])) (fun z => hb (by simp [z])) (fun z => hb (by simp [z])) e)⟩
    rcases hx with hx | hx
    · exact .inl (by simp; omega)
    · exact .inr (by simp; omega)
  self := fun _ _ _ _ _ st h => wpAny_pyIter_zip st.1 h
section
variable {X : Cx}
def iZip (K : PySem.W.Frag) (ta : TA) : TI := fun σ H R => ta σ H fun vs H1 => ∃ l1 l2 xs ys, vs = [.ref l1, .ref l2] ∧ SqL K H1 l1 xs ∧ SqL K H1 l2 ys ∧ R (Itz K l1 l2) H1
theorem pi_zipK {K : PySem.W.Frag} {a b : Expr} {ta : TA} {p pos : Pos} {elts : List Expr} {x1 : Nat} {tpos : Pos} (hK : X.K = K) (hg : Gl X "zip") (hm : X.mg "zip" = none) (ha : PA X [a, b] ta) (hs : starEach [a, b] X.env = [(false, eval a X.env), (false, eval b X.env)] := by rfl) (hs2 : starEach [b] X.env = [(false, eval b X.env)] := by rfl) : PI X (.Tuple elts x1 tpos) (.Call (.Name "zip" p) [a, b] [] pos) (iZip K ta) := by
  subst hK
  intro pins s σ H R I h
  refine Call_ (ld_blt I hg hm boot_zip (PyProof.Rows.callWith_type1 (thn (ha pos pins s σ H _ I h) fun us s1 ⟨vs, H1, I1, r1, q1⟩ => ?_) (by rw [hs, hs2]) (by rw [hs2]; rfl)))
  obtain ⟨l1, l2, xs, ys, e, hq1, hq2, q⟩ := q1
  subst e
  cases r1 with
  | cons r rr =>
    cases rr with
    | cons r' rr =>
      cases rr
      cases r
      cases r'
      obtain ⟨its1, rv1, pl1, hz1⟩ := I1.list hq1
      obtain ⟨its2, rv2, pl2, hz2⟩ := I1.list hq2
      have lt1 : l1 < s1.heap.objs.size := by obtain ⟨o, ho, _⟩ := pl1.isList; exact Heap.lt_size ho
      have lt2 : l2 < s1.heap.objs.size := by obtain ⟨o, ho, _⟩ := pl2.isList; exact Heap.lt_size ho
      refine call_zip_2 pl1.isList pl2.isList fun h' hZ hTI hTO hi1 hi2 hsz hk => ?_
      refine wpAny_pyIter_zip hZ ?_
      have I2 : Inv X pins σ H1 { s1 with heap := h' } := I1.kept (t' := s1.toks) hk
      refine ⟨s1.heap.objs.size + 4, [s1.heap.objs.size + 4, s1.heap.objs.size + 2, s1.heap.objs.size + 3, s1.heap.objs.size, s1.heap.objs.size + 1], _, _, H1, rfl, I2, turn_zip _ _ _ _ _ l1 l2 (zipApart_new lt1 lt2), ⟨hZ, hTI, ⟨_, _, hTO⟩, hi1, hi2⟩, fun b hb => ?_, q⟩
      have hb' : s1.heap.objs.size ≤ b := by
        have : b = s1.heap.objs.size + 4 ∨ b = s1.heap.objs.size + 2 ∨ b = s1.heap.objs.size + 3 ∨ b = s1.heap.objs.size ∨ b = s1.heap.objs.size + 1 := by simpa using hb
        rcases this with rfl | rfl | rfl | rfl | rfl
        · exact Nat.le_add_right _ _
        · exact Nat.le_add_right _ _
        · exact Nat.le_add_right _ _
        · exact Nat.le_refl _
        · exact Nat.le_add_right _ _
      exact I1.fpOk hb' (I1.hok.fresh hb')
end
end L2
set_option Elab.async false
set_option linter.all false
set_option maxRecDepth 100000
set_option maxHeartbeats 4000000
namespace L2
open PySem PySem.Spec PyProof.Rows
section
variable {K : PySem.W.Frag} {a l1 l2 D : Addr} {xs ys : List V} {g : TG} {tc : TT} {te : TE} {Q : VK} {σ0 : St} {H1 : Hp}
end
section
variable {K : PySem.W.Frag} {a l1 l2 : Addr} {xs ys : List V} {g : TG} {tb : TS} {D : Ends} {σ : St} {H : Hp}
theorem for_enum (Pv : Nat → St → Hp → Prop) (h0 : Pv 0 σ H) (hl : ∀ i σ H, i ≤ xs.length → Pv i σ H → SqL K H a xs)
    (hs : ∀ i x σ H p, xs[i]? = some x → Pv i σ H → H p = none → g (.ref p) σ (upd H p (.tup [.int i, x])) fun σ2 H2 => tb { D with nx := Pv (i + 1), ct := Pv (i + 1), bk := D.nx } σ2 H2) (hd : ∀ σ H, Pv xs.length σ H → D.nx σ H) :
    ∃ W : Nat → Nat → St → Hp → Prop, (∃ m, W 0 m σ H) ∧ ∀ i m σ H, W i m σ H →
      ((Ite K a).stop i H ∧ D.nx σ H) ∨ ((Ite K a).go i H ∧ ∃ N : St → Hp → Prop, (∀ σ' H', N σ' H' → ∃ m', m' < m ∧ W (i + 1) m' σ' H') ∧ ∀ x H', (Ite K a).yld i H x H' → g x σ H' fun σ2 H2 => tb { D with nx := N, ct := N, bk := D.nx } σ2 H2) := by
  refine ⟨fun i m σ H => m = xs.length - i ∧ i ≤ xs.length ∧ Pv i σ H, ⟨xs.length, by simp, Nat.zero_le _, h0⟩, ?_⟩
  rintro i m σ H ⟨rfl, hi, p⟩
  have q := hl i σ H hi p
  by_cases hlt : i < xs.length
  · refine .inr ⟨⟨xs, xs[i], q, by simp [hlt]⟩, Pv (i + 1), fun σ' H' p' => ⟨xs.length - (i + 1), by omega, rfl, hlt, p'⟩, fun x H' y => ?_⟩
    obtain ⟨t, z, rfl, ht, hz, rfl⟩ := y
    exact hs i z σ _ t (hz xs q) p ht
  · have e : i = xs.length := by omega
    subst e
    exact .inl ⟨⟨xs, q, Nat.le_refl _⟩, hd σ H p⟩
end
/-! ### list.insert, list.count, sum -/
section
variable {X : Cx}
theorem pe_bmK {K : PySem.W.Frag} {T name id : String} {r : V → List V → Hp → VK → Prop} {o e : Expr} {es : List Expr} {to : TE} {t : TA} {apos cpos : Pos} (h : X.K = K) (pa : PlainAttrs T) (slot : Slot T name id) (hty : typeOf (.builtin id) = pure (.type "method_descriptor")) (hm : MtR X id r) (ho : PE X o to) (ha : PA X (e :: es) t)
    (hbase : attributeBase o name X.env (eval o X.env) = eval o X.env := by rfl)
    (hfew : ((backTo cpos (starEach (e :: es) X.env)).all (fun x => !x.1) && (backToKw cpos (keywordEach [] X.env)).all (fun x => x.1.isSome)
      && decide ((e :: es).length + ([] : List Keyword).length + (if ([] : List Keyword).isEmpty then 0 else 1) < 30)) = true := by rfl)
    (hline : (apos.endLine == cpos.line) = true := by rfl) (hs : starEach (e :: es) X.env = (false, eval e X.env) :: starEach es X.env := by rfl) (hplain : (backTo cpos (starEach es X.env)).any (·.1) = false := by rfl) :
    PE X (.Call (.Attribute o name apos) (e :: es) [] cpos) (tBM K T r to t) := by
  subst h
  exact pe_bm pa slot hty hm ho ha hbase hfew hline hs hplain
theorem pg_tupK {K : PySem.W.Frag} {es : List Expr} {k : Nat} {t : TGs} {n : Nat} {pos : Pos} (hK : X.K = K) (hc : X.calm = true) (h : PGs X es t)
    (hn : (assignEach es X.env).length = n := by rfl) (hst : (assignEach es X.env).findIdx? (·.1) = none := by rfl) : PG X (.Tuple es k pos) (gTup K n t) := by subst hK; exact pg_tup hc h hn hst
end
end L2
set_option Elab.async false
set_option linter.all false
set_option maxRecDepth 100000
set_option maxHeartbeats 4000000
namespace L2
open PySem
/-! ### comprehensions whose block writes nothing that stood -/
section
variable {K : PySem.W.Frag} {a D : Addr} {xs : List V} {tc : TT} {te : TE} {Q : VK} {rest : St} {H1 : Hp}
theorem fm_succ {α : Type} (f : Nat → Option α) (n : Nat) : (List.range (n + 1)).filterMap f = (List.range n).filterMap f ++ (f n).toList := by
  rw [List.range_succ, List.filterMap_append]
  cases h : f n <;> simp [h]
theorem fm_len {α : Type} (f : Nat → Option α) (n : Nat) : ((List.range n).filterMap f).length ≤ n := by
  have := List.length_filterMap_le f (List.range n)
  simpa using this
theorem Same.newly {H H1 : Hp} {D : Addr} {o : HO} (h : Same H H1) (n : H D = none) : Same H (upd H1 D o) := fun b u e => by rw [upd_ne (ne_of_none e n)]; exact h b u e
/-- over a list: what is told of each item is known ahead -/
theorem comp_val (f : Nat → Option V) (hD : H1 D = none) (hq : SqL K H1 a xs) (hx : xs.length ≤ 100000)
    (hs : ∀ i x H (G : Hp → Prop) (F : VK), xs[i]? = some x → Same H1 H → (∀ H', Same H H' → f i = none → G H') → (∀ y H', Same H H' → f i = some y → F y H') → tc (some x :: rest) H fun b H3 => if b = true then te (some x :: rest) H3 F else G H3)
    (hd : ∀ H, Same H1 H → H D = some (.lst ((List.range xs.length).filterMap f)) → Q (.ref D) H) : CompW (Itl K a) (gName 0) tc te Q D (none :: rest) H1 := by
  refine comp_list (K := K) (xs := xs) (fun i σ H => (∃ v, σ = v :: rest) ∧ Same H1 H ∧ H D = some (.lst ((List.range i).filterMap f))) ⟨⟨none, rfl⟩, same_new hD, upd_same⟩ (fun i σ H _ ⟨_, sm, _⟩ => sm.sqL _ _ hq) ?_ (fun σ H ⟨_, sm, e⟩ => hd H sm e)
  rintro i x σ H hi ⟨⟨v, rfl⟩, sm, e⟩
  have hil : i < xs.length := (List.getElem?_eq_some_iff.mp hi).1
  refine hs i x H _ _ hi sm (fun H3 s3 ef => ⟨⟨_, rfl⟩, sm.trans s3, by rw [s3 _ _ e, fm_succ, ef]; simp⟩) (fun y H4 s4 ef => ?_)
  refine ⟨_, s4 _ _ e, ?_, ⟨_, rfl⟩, (sm.trans s4).newly hD, ?_⟩
  · have := fm_len f i
    rw [sizeLine_eq]; omega
  · rw [upd_same, fm_succ, ef]; rfl
theorem comp_valT (f : Nat → Option V) (hD : H1 D = none) (hq : H1 a = some (.tup xs)) (hx : xs.length ≤ 100000)
    (hs : ∀ i x H (G : Hp → Prop) (F : VK), xs[i]? = some x → Same H1 H → (∀ H', Same H H' → f i = none → G H') → (∀ y H', Same H H' → f i = some y → F y H') → tc (some x :: rest) H fun b H3 => if b = true then te (some x :: rest) H3 F else G H3)
    (hd : ∀ H, Same H1 H → H D = some (.lst ((List.range xs.length).filterMap f)) → Q (.ref D) H) : CompW (Itt K a) (gName 0) tc te Q D (none :: rest) H1 := by
  refine comp_tup (K := K) (xs := xs) (fun i σ H => (∃ v, σ = v :: rest) ∧ Same H1 H ∧ H D = some (.lst ((List.range i).filterMap f))) ⟨⟨none, rfl⟩, same_new hD, upd_same⟩ (fun i σ H _ ⟨_, sm, _⟩ => SqT.of (sm.tups _ _ hq)) ?_ (fun σ H ⟨_, sm, e⟩ => hd H sm e)
  rintro i x σ H hi ⟨⟨v, rfl⟩, sm, e⟩
  have hil : i < xs.length := (List.getElem?_eq_some_iff.mp hi).1
  refine hs i x H _ _ hi sm (fun H3 s3 ef => ⟨⟨_, rfl⟩, sm.trans s3, by rw [s3 _ _ e, fm_succ, ef]; simp⟩) (fun y H4 s4 ef => ?_)
  refine ⟨_, s4 _ _ e, ?_, ⟨_, rfl⟩, (sm.trans s4).newly hD, ?_⟩
  · have := fm_len f i
    rw [sizeLine_eq]; omega
  · rw [upd_same, fm_succ, ef]; rfl
theorem comp_valR {n : Nat} (f : Nat → Option V) (hD : H1 D = none) (hx : n ≤ 100000)
    (hs : ∀ i H (G : Hp → Prop) (F : VK), i < n → Same H1 H → (∀ H', Same H H' → f i = none → G H') → (∀ y H', Same H H' → f i = some y → F y H') → tc (some (.int (0 + i)) :: rest) H fun b H3 => if b = true then te (some (.int (0 + i)) :: rest) H3 F else G H3)
    (hd : ∀ H, Same H1 H → H D = some (.lst ((List.range n).filterMap f)) → Q (.ref D) H) : CompW (Itr 0 n) (gName 0) tc te Q D (none :: rest) H1 := by
  refine comp_range (lo := 0) (n := n) (fun i σ H => (∃ v, σ = v :: rest) ∧ Same H1 H ∧ H D = some (.lst ((List.range i).filterMap f))) ⟨⟨none, rfl⟩, same_new hD, upd_same⟩ ?_ (fun σ H ⟨_, sm, e⟩ => hd H sm e)
  rintro i σ H hi ⟨⟨v, rfl⟩, sm, e⟩
  refine hs i H _ _ hi sm (fun H3 s3 ef => ⟨⟨_, rfl⟩, sm.trans s3, by rw [s3 _ _ e, fm_succ, ef]; simp⟩) (fun y H4 s4 ef => ?_)
  refine ⟨_, s4 _ _ e, ?_, ⟨_, rfl⟩, (sm.trans s4).newly hD, ?_⟩
  · have := fm_len f i
    rw [sizeLine_eq]; omega
  · rw [upd_same, fm_succ, ef]; rfl
theorem fm_congr {α β : Type} {f g : α → Option β} : ∀ (l : List α) (_ : True) (h : ∀ x ∈ l, f x = g x), l.filterMap f = l.filterMap g
  | [], _, _ => rfl
  | x :: l, _, h => by
    rw [List.filterMap_cons, List.filterMap_cons, h x (by simp), fm_congr l trivial fun y hy => h y (by simp [hy])]
end
end L2
namespace L2
open PySem
section
variable {X : Cx} {K : PySem.W.Frag}
theorem op_catTK (h : X.K = K) : OpR X (binaryOp .Add) (rCatT K) := by subst h; exact op_catT
end
end L2
namespace L2
open PySem
/-- the rest of a block hidden while its first statement is read: keeps the terms small -/
theorem seq_one {a b : TS} {D : Ends} {σ : St} {H : Hp} (h : ∀ R : St → Hp → Prop, (∀ σ' H', b D σ' H' → R σ' H') → a { D with nx := R } σ H) : tSeq a b D σ H := h _ (fun _ _ x => x)
theorem seq_cps {a b : TS} {D : Ends} {σ : St} {H : Hp} (P : St → Hp → Prop) (h1 : ∀ D' : Ends, (∀ σ' H', P σ' H' → D'.nx σ' H') → D'.rt = D.rt → a D' σ H) (h2 : ∀ σ' H', P σ' H' → b D σ' H') : tSeq a b D σ H := h1 _ h2 rfl
end L2
namespace L2
open PySem PySem.Spec PyProof.Rows
section
variable {X : Cx} {K : PySem.W.Frag} {a : Expr} {ta : TE} {pos : Pos}
end
end L2
set_option Elab.async false
set_option linter.all false
set_option maxRecDepth 100000
set_option maxHeartbeats 4000000
namespace L2
open PySem PySem.Spec PyProof.Rows
section
variable {X : Cx} {K : PySem.W.Frag}
end
section
variable {K : PySem.W.Frag} {a D : Addr} {xs : List V} {te : TE} {Q : VK} {rest : St} {H1 : Hp}
theorem dats_snoc {H : Hp} {vs : List V} {ds : List PyData} {v : V} {d : PyData} (h : Dats H vs ds) (hd : Dat H v d) : Dats H (vs ++ [v]) (ds ++ [d]) := Dats.append h (by simp only [Dats, and_true]; exact hd)
end
end L2
set_option Elab.async false
set_option linter.all false
namespace L2
open PySem
end L2
set_option Elab.async false
set_option linter.all false
set_option maxRecDepth 100000
set_option maxHeartbeats 4000000
namespace L2
open PySem PySem.Spec PyProof.Rows
section
variable {prog : Program} {w : World} {K : Type} [DecidableEq K] {knd : HeapKind prog w K}
end
section
variable {X : Cx} {o e f : Expr} {td ty tx : TE} {apos cpos : Pos}
end
end L2
namespace L2
open PySem PySem.Spec PyProof.Rows
section
variable {X : Cx} {K : PySem.W.Frag}
end
end L2
namespace L2
open PySem
end L2
set_option Elab.async false
set_option linter.all false
set_option maxRecDepth 100000
set_option maxHeartbeats 4000000
namespace L2
open PySem PySem.Spec PyProof.Rows
section
variable {X : Cx} {K : PySem.W.Frag}
end
/-! ### texts put together -/
def cat : List Str → Str
  | [] => Str.empty
  | x :: xs => x ++ cat xs
end L2
set_option Elab.async false
set_option linter.all false
set_option maxRecDepth 100000
set_option maxHeartbeats 4000000
namespace L2
open PySem PySem.Spec PyProof.Rows
section
variable {X : Cx} {body suite : List Stmt} {b0 : Stmt} {cn : Str} {Dc : Addr} {tb : (St → XK) → TS} {th : TS} {cp hpos pos : Pos}
end
end L2
namespace L2
open PySem PySem.Spec PyProof.Rows
section
variable {X : Cx}
end
end L2
set_option Elab.async false
set_option linter.all false
set_option maxRecDepth 100000
set_option maxHeartbeats 4000000
namespace L2
open PySem PySem.Spec PyProof.Rows
section
variable {X : Cx} {pins : List (Addr × Obj)} {σ : St} {H : Hp} {s : Shared} {d : Addr} {u u' : HO}
end
/-! ### over a dict's keys: the dict is held as it stands till the walk is over -/
section
variable {X : Cx} {tg : Expr}
end
section
variable {d D : Addr} {o : Obj} {kvs : List (Key × V)} {tc : TT} {te : TE} {Q : VK} {rest : St} {H1 : Hp}
end
/-! ### let go again -/
end L2
set_option Elab.async false
set_option linter.all false
set_option maxRecDepth 100000
set_option maxHeartbeats 4000000
namespace L2
open PySem PySem.Spec PyProof.Rows
/-! ### dicts from numbers to numbers -/
end L2
set_option Elab.async false
set_option linter.all false
set_option maxRecDepth 100000
set_option maxHeartbeats 4000000
namespace L2
open PySem PySem.Spec PyProof.Rows
/-! ### range downwards -/
section
variable {X : Cx} {tg : Expr}
/-! ### the least of a list -/
end
end L2
set_option Elab.async false
set_option linter.all false
set_option maxRecDepth 100000
set_option maxHeartbeats 4000000
namespace L2
open PySem PySem.Spec PyProof.Rows
/-! ### reversed of a list -/
def Itv (K : PySem.W.Frag) (a : Addr) (n : Nat) : It := ⟨fun i H => i < n ∧ ∃ xs, SqL K H a xs ∧ xs.length = n, fun i H x H' => H' = H ∧ ∀ xs, SqL K H a xs → xs[n - 1 - i]? = some x, fun i _ => n ≤ i⟩
theorem turn_rev {P : Program} {w : World} {K : PySem.W.Frag} {tg : Expr} (a it : Addr) (n : Nat) : Turn P w K tg (Itv K a n) [it] it (fun i h => i ≤ n ∧ h.IsRevIter it a ((n : Int) - 1 - (i : Int))) where
  mem := by simp
  obj := fun i h st b hb => by
    have e : b = it := by simpa using hb
    subst e
    obtain ⟨_, o, e, c, d⟩ := st
    exact ⟨o, e, fun v z => by rw [d] at z; cases z⟩
  keep := fun i h h' st k => ⟨st.1, st.2.at fun o e => k it (by simp) o e⟩
  item := by
    intro X hP hw hK hc i pins s σ H E I hf st hg
    subst hP hw hK
    obtain ⟨hi, xs, hq, hx⟩ := hg
    obtain ⟨its, rv, p, hz⟩ := I.list hq
    obtain ⟨x, ex⟩ : ∃ x, xs[n - 1 - i]? = some x := ⟨xs[n - 1 - i]'(by omega), by rw [List.getElem?_eq_getElem]⟩
    obtain ⟨u, hu, ru⟩ := rv.get ex
    obtain ⟨f0, f1, f2, f3, f4, f5⟩ := hf it (by simp)
    have e : (n : Int) - 1 - (i : Int) = ((n - 1 - i : Nat) : Int) := by omega
    have hit := st.2
    rw [e] at hit
    refine wpAny_pyNext_rev_item hit p.isList (x := u) (by simpa using hu) fun h' st' sb => ?_
    have e2 : ((n - 1 - i : Nat) : Int) - 1 = (n : Int) - 1 - ((i + 1 : Nat) : Int) := by omega
    rw [e2] at st'
    have I1 : Inv X pins σ H { s with heap := h' } := I.turned (t' := s.toks) (fun b o hb e => (sb.2 b hb).trans e) f0 f1 f3 f4 f5
    obtain ⟨o, eo, c, d⟩ := id st'
    exact ⟨u, rfl, go_of (s := { s with heap := h' }) eo c d (by decide) ⟨x, H, I1, ru, ⟨rfl, fun ys hy => by rw [I.list_inj hy hq]; exact ex⟩, ⟨hi, st'⟩, fun b hb => (hf b hb).1⟩⟩
  done := by
    intro X hP hw hK hc i pins s σ H E I hf st hg
    subst hP hw hK
    obtain ⟨f0, f1, f2, f3, f4, f5⟩ := hf it (by simp)
    have hg' : n ≤ i := hg
    have e : (n : Int) - 1 - (i : Int) = -1 := by have := st.1; omega
    have hit := st.2
    rw [e] at hit
    exact wpAny_pyNext_rev_end (I.ok.hd hc) hit fun h' eb => ⟨rfl, I.turned (t' := s.toks) (fun b o hb e => eb b o hb e) f0 f1 f3 f4 f5⟩
  self := fun _ _ _ _ _ st h => wpAny_pyIter_revIter st.2 h
section
variable {X : Cx} {tg : Expr}
theorem bt_reversed : bootBuiltins "reversed" = some (.type "reversed") := by kernel_rfl
def iRev (K : PySem.W.Frag) (ta : TA) : TI := fun σ H R => ta σ H fun vs H1 => ∃ (a : Addr) (xs : List V), vs = [.ref a] ∧ SqL K H1 a xs ∧ R (Itv K a xs.length) H1
theorem pi_reveK {K : PySem.W.Frag} (hK : X.K = K) {l : Expr} {ta : TA} {p pos : Pos} (hg : Gl X "reversed") (hm : X.mg "reversed" = none) (ha : PA X [l] ta) (hs : starEach [l] X.env = [(false, eval l X.env)] := by rfl) :
    PI X tg (.Call (.Name "reversed" p) [l] [] pos) (iRev K ta) := by
  subst hK
  intro pins s σ H R I h
  refine Call_ (ld_blt I hg hm bt_reversed (PyProof.Rows.callWith_type1 (thn (ha pos pins s σ H _ I h) fun us s1 ⟨vs, H1, I1, r1, q1⟩ => ?_) hs rfl))
  obtain ⟨a, xs, e, hq, q⟩ := q1
  subst e
  obtain ⟨u, rfl, rx⟩ := vals1 r1
  cases rx
  obtain ⟨its, rv, pl, hz⟩ := I1.list hq
  have hl := rv.length
  refine call_reversed_list pl.isList ?_
  have hs' : ((its.toArray.size : Nat) : Int) - 1 = (xs.length : Int) - 1 - ((0 : Nat) : Int) := by simp; omega
  rw [hs']
  have st : (s1.heap.push (revObj a ((xs.length : Int) - 1 - ((0 : Nat) : Int)))).IsRevIter s1.heap.objs.size a ((xs.length : Int) - 1 - ((0 : Nat) : Int)) := ⟨_, Heap.get?_push_size _ rfl, rfl, rfl⟩
  refine wpAny_pyIter_revIter st ?_
  refine ⟨s1.heap.objs.size, [s1.heap.objs.size], _, _, H1, rfl, I1.kept (t' := s1.toks) fun b o e => Heap.get?_push_of_some _ e, turn_rev a _ xs.length, ⟨Nat.zero_le _, st⟩, fun b hb => ?_, q⟩
  have e : b = s1.heap.objs.size := by simpa using hb
  subst e
  exact I1.fpOk (Nat.le_refl _) (I1.hok.fresh (Nat.le_refl _))
/-! ### list(range(a, b)) -/
end
end L2
set_option Elab.async false
set_option linter.all false
set_option maxRecDepth 100000
set_option maxHeartbeats 4000000
namespace L2
open PySem PySem.Spec PyProof.Rows
/-! ### in, for lists of data -/
section
variable {X : Cx}
end
end L2
set_option Elab.async false
set_option linter.all false
set_option maxRecDepth 100000
set_option maxHeartbeats 4000000
namespace L2
open PySem PySem.Spec PyProof.Rows
/-! ### a def that may raise, where it doesn't -/
/-! ### data that stay -/
section
variable {H H' : Hp}
mutual
theorem Dat.same (k : Same H H') : ∀ (d : PyData) {v : V}, Dat H v d → Dat H' v d
  | .none, _, h => by simp only [Dat] at h ⊢; exact h
  | .bool _, _, h => by simp only [Dat] at h ⊢; exact h
  | .int _, _, h => by simp only [Dat] at h ⊢; exact h
  | .str _, _, h => by simp only [Dat] at h ⊢; exact h
  | .list ds, _, h => by simp only [Dat] at h ⊢; obtain ⟨a, vs, e, q, r⟩ := h; exact ⟨a, vs, e, k _ _ q, Dats.same k ds r⟩
  | .tuple ds, _, h => by simp only [Dat] at h ⊢; obtain ⟨a, vs, e, q, r⟩ := h; exact ⟨a, vs, e, k _ _ q, Dats.same k ds r⟩
  | .dict _, _, h => by simp only [Dat] at h
theorem Dats.same (k : Same H H') : ∀ (ds : List PyData) {vs : List V}, Dats H vs ds → Dats H' vs ds
  | [], [], _ => by simp only [Dats]
  | d :: ds, v :: vs, h => by simp only [Dats] at h ⊢; exact ⟨Dat.same k d h.1, Dats.same k ds h.2⟩
  | _ :: _, [], h => by simp only [Dats] at h
  | [], _ :: _, h => by simp only [Dats] at h
end
end
/-! ### isinstance(x, (t1, t2)) of plain data -/
section
variable {X : Cx} {K : PySem.W.Frag}
end
section
variable {K : PySem.W.Frag} {a D : Addr} {xs : List V} {tc : TT} {te : TE} {Q : VK} {rest : St} {H1 : Hp}
theorem imms_fm {f : Nat → Option PyData} (hf : ∀ i d, f i = some d → imm d = true) : ∀ l : List Nat, imms (l.filterMap f) = true
  | [] => rfl
  | i :: l => by
    rw [List.filterMap_cons]
    cases e : f i with
    | none => exact imms_fm hf l
    | some d => simp only [imms, hf i d e, imms_fm hf l, Bool.and_self]
/-- items that are new data of their own, over a list, some left out -/
theorem comp_datL (f : Nat → Option PyData) (hf : ∀ i d, f i = some d → imm d = true) (hD : H1 D = none) (hq : SqL K H1 a xs) (hx : xs.length ≤ 100000)
    (hs : ∀ i x H (G : Hp → Prop) (F : VK), xs[i]? = some x → Same H1 H → (∀ H', Same H H' → f i = none → G H') → (∀ y d H', Same H H' → f i = some d → Dat H' y d → F y H') → tc (some x :: rest) H fun b H3 => if b = true then te (some x :: rest) H3 F else G H3)
    (hd : ∀ H vs, Same H1 H → H D = some (.lst vs) → Dats H vs ((List.range xs.length).filterMap f) → Q (.ref D) H) : CompW (Itl K a) (gName 0) tc te Q D (none :: rest) H1 := by
  refine comp_list (K := K) (xs := xs) (fun i σ H => (∃ v, σ = v :: rest) ∧ Same H1 H ∧ ∃ vs, H D = some (.lst vs) ∧ Dats H vs ((List.range i).filterMap f)) ⟨⟨none, rfl⟩, same_new hD, [], upd_same, by simp [Dats]⟩ (fun i σ H _ ⟨_, sm, _⟩ => sm.sqL _ _ hq) ?_ (fun σ H ⟨_, sm, vs, e, d⟩ => hd H vs sm e d)
  rintro i x σ H hi ⟨⟨v, rfl⟩, sm, vs, e, d⟩
  have hil : i < xs.length := (List.getElem?_eq_some_iff.mp hi).1
  have im := imms_fm hf (List.range i)
  refine hs i x H _ _ hi sm (fun H3 s3 ef => ⟨⟨_, rfl⟩, sm.trans s3, vs, s3 _ _ e, ?_⟩) (fun y dd H4 s4 ef dy => ?_)
  · rw [fm_succ, ef]
    simpa using Dats.keep s3.tups _ im d
  · have hl : vs.length ≤ i := by rw [d.length]; exact fm_len f i
    have kp : Kp D H4 (upd H4 D (.lst (vs ++ [y]))) := Kp.set
    have tp := kp.tups (s4 _ _ e)
    refine ⟨vs, s4 _ _ e, ?_, ⟨_, rfl⟩, (sm.trans s4).newly hD, vs ++ [y], upd_same, ?_⟩
    · rw [sizeLine_eq]; omega
    · rw [fm_succ, ef]
      exact dats_snoc (Dats.keep (fun a xs h => tp _ _ (s4.tups _ _ h)) _ im d) (Dat.keep tp _ (hf i dd ef) dy)
end
/-! ### t + u, any tuples -/
section
variable {X : Cx}
def rCatTU : R2 := fun x y H Q => ∃ a b xs ys, x = .ref a ∧ y = .ref b ∧ H a = some (.tup xs) ∧ H b = some (.tup ys) ∧ xs.length + ys.length ≤ sizeLine ∧ ∀ p H', H' p = some (.tup (xs ++ ys)) → Same H H' → Q (.ref p) H'
theorem op_catTU : OpR X (binaryOp .Add) rCatTU := by
  intro pins s σ H x y v u Q I rx ry h
  obtain ⟨a, b, xs, ys, rfl, rfl, ha, hb, hz, q⟩ := h
  cases rx
  cases ry
  obtain ⟨its, r1, p1, _⟩ := I.tuple (SqT.of ha)
  obtain ⟨its2, r2, p2, _⟩ := I.tuple (SqT.of hb)
  by_cases hv : its = []
  · obtain ⟨⟨cls, dd, data, sl⟩, ho, hc, n, hd⟩ := id p1
    obtain ⟨⟨cls2, dd2, data2, sl2⟩, ho2, hc2, n2, hd2⟩ := id p2
    simp only at hc hd hc2 hd2
    subst hc hd hc2 hd2
    exact concat_meets ⟨_, ho, rfl⟩ ⟨_, ho2, rfl⟩ noFill_tuple_add seq_tuple_add PySem.F.slot_tuple_add PySem.F.entry_tuple_add (PySem.F.args_tuple_add_2 _ _)
      (tuple_addW0 a b its.toArray its2.toArray n n2 dd dd2 sl sl2 (by simp [hv])) ⟨ho, ho2, ⟨.ref b, H, I, rfl, q b H (by rw [hb, r1.nil_iff.mp hv]; rfl) (Same.refl _)⟩⟩
  refine HT.cat_tup p1 p2 hv (fun z => ⟨.ref a, H, I, rfl, q a H (by rw [ha, r2.nil_iff.mp z, List.append_nil]) (Same.refl _)⟩) (fun z => ?_) (by rw [← r1.length, ← r2.length]; exact hz)
  have fr := I.hok.fresh (Nat.le_refl s.heap.objs.size)
  refine ⟨.ref s.heap.objs.size, _, I.laid (t' := s.toks) (o := .tup (xs ++ ys)) (fun b ob q => Heap.get?_push_of_some _ q) (Nat.le_refl _) ?_, rfl, q _ _ upd_same (same_new fr)⟩
  exact ⟨by rw [List.length_append]; exact hz, _, r1.append r2, IsTup.new _ _⟩
end
end L2
set_option Elab.async false
set_option linter.all false
set_option maxRecDepth 100000
set_option maxHeartbeats 4000000
namespace L2
open PySem
section
variable {K : PySem.W.Frag} {a D : Addr} {xs : List V} {tc : TT} {te : TE} {Q : VK} {rest : St} {H1 : Hp}
/-- over a list of pairs, taken apart: the block tells data that never changes, or leaves out -/
theorem comp_datP (f : Nat → Option PyData) (hf : ∀ i d, f i = some d → imm d = true) (hD : H1 D = none) (hq : H1 a = some (.lst xs)) (hx : xs.length ≤ 100000) (hp : ∀ (i : Nat) (v : V), xs[i]? = some v → ∃ (t : Addr) (x y : V), v = .ref t ∧ H1 t = some (.tup [x, y]))
    (hs : ∀ i t x y H (G : Hp → Prop) (F : VK), xs[i]? = some (.ref t) → H1 t = some (.tup [x, y]) → Same H1 H → (∀ H', Same H H' → f i = none → G H') → (∀ v d H', Same H H' → f i = some d → Dat H' v d → F v H') → tc (some x :: some y :: rest) H fun b H3 => if b = true then te (some x :: some y :: rest) H3 F else G H3)
    (hd : ∀ H vs, Same H1 H → H D = some (.lst vs) → Dats H vs ((List.range xs.length).filterMap f) → Q (.ref D) H) : CompW (Itl K a) (gTup K 2 (gCons (gName 0) (gCons (gName 1) gNil))) tc te Q D (none :: none :: rest) H1 := by
  refine comp_list (K := K) (xs := xs) (fun i σ H => (∃ u v, σ = u :: v :: rest) ∧ Same H1 H ∧ ∃ vs, H D = some (.lst vs) ∧ Dats H vs ((List.range i).filterMap f)) ⟨⟨none, none, rfl⟩, same_new hD, [], upd_same, by simp [Dats]⟩ (fun i σ H _ ⟨_, sm, _⟩ => SqL.of (sm _ _ hq)) ?_ (fun σ H ⟨_, sm, vs, e, d⟩ => hd H vs sm e d)
  rintro i v σ H hi ⟨⟨u1, u2, rfl⟩, sm, vs, e, d⟩
  obtain ⟨t, x, y, rfl, ht⟩ := hp i v hi
  have hil : i < xs.length := (List.getElem?_eq_some_iff.mp hi).1
  have im := imms_fm hf (List.range i)
  refine ⟨t, _, rfl, SqT.of (sm _ _ ht), rfl, _, _, rfl, _, _, rfl, rfl, ?_⟩
  refine hs i t x y H _ _ hi ht sm (fun H3 s3 ef => ⟨⟨_, _, rfl⟩, sm.trans s3, vs, s3 _ _ e, ?_⟩) (fun y dd H4 s4 ef dy => ?_)
  · rw [fm_succ, ef]
    simpa using Dats.keep s3.tups _ im d
  · have hl : vs.length ≤ i := by rw [d.length]; exact fm_len f i
    have kp : Kp D H4 (upd H4 D (.lst (vs ++ [y]))) := Kp.set
    have tp := kp.tups (s4 _ _ e)
    refine ⟨vs, s4 _ _ e, ?_, ⟨_, _, rfl⟩, (sm.trans s4).newly hD, vs ++ [y], upd_same, ?_⟩
    · rw [sizeLine_eq]; omega
    · rw [fm_succ, ef]
      exact dats_snoc (Dats.keep (fun a xs h => tp _ _ (s4.tups _ _ h)) _ im d) (Dat.keep tp _ (hf i dd ef) dy)
end
end L2
set_option Elab.async false
set_option linter.all false
set_option maxRecDepth 100000
set_option maxHeartbeats 4000000
namespace L2
open PySem PySem.Spec PyProof.Rows
/-! ### xs[::-1] -/
section
variable {X : Cx} {K : PySem.W.Frag} {e st : Expr} {te tk : TE} {pos p2 : Pos}
end
end L2
set_option Elab.async false
set_option linter.all false
set_option maxRecDepth 100000
set_option maxHeartbeats 4000000
namespace L2
open PySem PySem.Spec PyProof.Rows
/-! ### data are one -/
section
variable {H : Hp}
mutual
theorem Dat.fn : ∀ (d e : PyData) {v : V}, Dat H v d → Dat H v e → d = e
  | .none, e, v, h, g => by cases e <;> simp only [Dat] at h g <;> first | rfl | (subst h; first | (obtain ⟨_, _, z, _⟩ := g; cases z; done) | (cases g; done))
  | .bool _, e, v, h, g => by cases e <;> simp only [Dat] at h g <;> first | (subst h; first | (injection g with g; rw [g]; done) | (obtain ⟨_, _, z, _⟩ := g; cases z; done) | (cases g; done))
  | .int _, e, v, h, g => by cases e <;> simp only [Dat] at h g <;> first | (subst h; first | (injection g with g; rw [g]; done) | (obtain ⟨_, _, z, _⟩ := g; cases z; done) | (cases g; done))
  | .str _, e, v, h, g => by cases e <;> simp only [Dat] at h g <;> first | (subst h; first | (injection g with g; rw [g]; done) | (obtain ⟨_, _, z, _⟩ := g; cases z; done) | (cases g; done))
  | .list ds, .list es, v, h, g => by
    simp only [Dat] at h g
    obtain ⟨a, vs, rfl, ha, da⟩ := h
    obtain ⟨b, ws, e, hb, db⟩ := g
    injection e with e
    subst e
    rw [ha] at hb
    injection hb with hb
    injection hb with hb
    subst hb
    rw [Dats.fn ds es da db]
  | .tuple ds, .tuple es, v, h, g => by
    simp only [Dat] at h g
    obtain ⟨a, vs, rfl, ha, da⟩ := h
    obtain ⟨b, ws, e, hb, db⟩ := g
    injection e with e
    subst e
    rw [ha] at hb
    injection hb with hb
    injection hb with hb
    subst hb
    rw [Dats.fn ds es da db]
  | .list ds, .tuple es, v, h, g => by
    simp only [Dat] at h g
    obtain ⟨a, vs, rfl, ha, da⟩ := h
    obtain ⟨b, ws, e, hb, db⟩ := g
    injection e with e
    subst e
    rw [ha] at hb
    injection hb with hb
    cases hb
  | .tuple ds, .list es, v, h, g => by
    simp only [Dat] at h g
    obtain ⟨a, vs, rfl, ha, da⟩ := h
    obtain ⟨b, ws, e, hb, db⟩ := g
    injection e with e
    subst e
    rw [ha] at hb
    injection hb with hb
    cases hb
  | .list ds, .none, v, h, g => by simp only [Dat] at h g; obtain ⟨a, vs, rfl, _⟩ := h; cases g
  | .list ds, .bool _, v, h, g => by simp only [Dat] at h g; obtain ⟨a, vs, rfl, _⟩ := h; cases g
  | .list ds, .int _, v, h, g => by simp only [Dat] at h g; obtain ⟨a, vs, rfl, _⟩ := h; cases g
  | .list ds, .str _, v, h, g => by simp only [Dat] at h g; obtain ⟨a, vs, rfl, _⟩ := h; cases g
  | .tuple ds, .none, v, h, g => by simp only [Dat] at h g; obtain ⟨a, vs, rfl, _⟩ := h; cases g
  | .tuple ds, .bool _, v, h, g => by simp only [Dat] at h g; obtain ⟨a, vs, rfl, _⟩ := h; cases g
  | .tuple ds, .int _, v, h, g => by simp only [Dat] at h g; obtain ⟨a, vs, rfl, _⟩ := h; cases g
  | .tuple ds, .str _, v, h, g => by simp only [Dat] at h g; obtain ⟨a, vs, rfl, _⟩ := h; cases g
  | .list ds, .dict _, v, h, g => by simp only [Dat] at g
  | .tuple ds, .dict _, v, h, g => by simp only [Dat] at g
  | .dict _, _, v, h, g => by simp only [Dat] at h
theorem Dats.fn : ∀ (ds es : List PyData) {vs : List V}, Dats H vs ds → Dats H vs es → ds = es
  | [], [], _, _, _ => rfl
  | d :: ds, e :: es, v :: vs, h, g => by
    simp only [Dats] at h g
    rw [Dat.fn d e h.1 g.1, Dats.fn ds es h.2 g.2]
  | [], _ :: _, [], _, g => by simp only [Dats] at g
  | [], _ :: _, _ :: _, h, _ => by simp only [Dats] at h
  | _ :: _, [], [], h, _ => by simp only [Dats] at h
  | _ :: _, [], _ :: _, _, g => by simp only [Dats] at g
  | _ :: _, _ :: _, [], h, _ => by simp only [Dats] at h
end
end
/-! ### xs.index(x), of tuples -/
section
variable {X : Cx}
end
end L2
set_option Elab.async false
set_option linter.all false
set_option maxRecDepth 100000
set_option maxHeartbeats 4000000
namespace L2
open PySem PySem.Spec PyProof.Rows
/-! ### f"..{n}" -/
section
variable {X : Cx} {K : PySem.W.Frag} {e e1 e2 l : Expr} {te t1 t2 tl : TE} {pos : Pos} {tg : Expr}
/-! ### walking a list or a tuple -/
end
section
variable {X : Cx}
end
end L2
set_option Elab.async false
set_option linter.all false
set_option maxRecDepth 100000
set_option maxHeartbeats 4000000
namespace L2
open PySem PySem.Spec PyProof.Rows PySem.Builtin PySem.Builtin.Str
/-! ### texts taken apart -/
section
variable {X : Cx} {K : PySem.W.Frag}
/-! ### the signs of a text, one by one -/
end
section
variable {K : PySem.W.Frag} {D : Addr} {tc : TT} {te : TE} {Q : VK} {rest : St} {H1 : Hp}
end
section
variable {X : Cx}
end
end L2
set_option Elab.async false
set_option linter.all false
set_option maxRecDepth 100000
set_option maxHeartbeats 4000000
namespace L2
open PySem PySem.Spec PyProof.Rows PySem.Builtin PySem.Builtin.Str
/-! ### a text put together of parts without the sign between, taken apart there again -/
def jn (c : Nat) : List (List Nat) → List Nat
  | [] => []
  | [x] => x
  | x :: y :: r => x ++ c :: jn c (y :: r)
/-! ### the texts of the numbers below 1000 -/
end L2
set_option Elab.async false
set_option linter.all false
set_option maxRecDepth 100000
set_option maxHeartbeats 4000000
namespace L2
open PySem PySem.Spec PyProof.Rows
/-! ### classes: methods and instances made -/
section
variable (P : Program) (w : World) (K : PySem.W.Frag) (mg : Str → Option Value) (base : Heap)
end
section
variable {P : Program} {w : World} {K : PySem.W.Frag} {mg : Str → Option Value} {base : Heap} {k : Nat} {C : Addr} {m x : Str} {ps : List Str} {sp : Sp} {dvs : List V}
end
section
variable {X : Cx} {k : Nat} {C : Addr} {x m : Str} {ps : List Str} {sp : Sp} {dvs : List V} {e o : Expr} {es : List Expr} {ta : TE} {t : TA} {p pos apos : Pos} {E : St → XK}
end
end L2
namespace L2
open PySem PySem.Spec PyProof.Rows PySem.Builtin PySem.Builtin.Str
/-! ### more of classes and texts -/
section
variable {X : Cx} {K : PySem.W.Frag} {o e value : Expr} {f : Str} {pos pos' tpos : Pos} {ta tv : TE}
end
/-! ### a def with defaults -/
section
variable {P : Program} {w : World} {K : PySem.W.Frag} {mg : Str → Option Value} {base : Heap}
end
/-! ### an instance made with the last parameter by its name -/
section
variable {X : Cx} {k : Nat} {C : Addr} {x kn : Str} {ps : List Str} {sp : Sp} {e ke : Expr} {es : List Expr} {te : TE} {t : TA} {p pos kpos : Pos} {E : St → XK}
end
end L2
set_option Elab.async false
set_option linter.all false
set_option maxRecDepth 100000
set_option maxHeartbeats 4000000
namespace L2
open PySem PySem.Spec PyProof.Rows
/-! ### a comprehension one of whose own names is taken along by another one within -/
section
variable {X : Cx} {pins : List (Addr × Obj)} {σ : St} {H : Hp} {s : Shared} {scope : Scope} {N own : List Str} {caps : List Nat} {fp : List Addr} {C : Nat} {xc : Str}
end

section
variable {M : Model} {A : Around} {E : Value → Shared → Prop} {s : Shared}
end
section
variable {X : Cx} {elt tg iter : Expr} {ifs : List Expr} {scope : Scope} {pos : Pos} {N own : List Str} {caps : List Nat} {wi : TI} {g : TG} {tc : TT} {te : TE} {xc : Str}
end
end L2
set_option Elab.async false
set_option linter.all false
set_option maxRecDepth 100000
set_option maxHeartbeats 4000000
namespace Tim
open PySem PyProof.Rows
/-! ### list.sort of any length: the order of the keys as a rank -/
def gallop' : Bool → Keyed → Array Keyed → Nat → Nat → Nat → StateT SortSt Sem (Option Nat) := sortPriv% PySem.Builtin.gallop
def beyond' (left : Bool) (key : Keyed) (arr : Array Keyed) (base i : Nat) : StateT SortSt Sem (Option Bool) := do
    let x ← elem' arr (base + i)
    if left then lt' x key else return (← lt' key x).map (!·)
theorem gallop'_eq (left : Bool) (key : Keyed) (arr : Array Keyed) (base n hint : Nat) : gallop' left key arr base n hint = (do
  let mut lastofs := 0
  let mut ofs := 1
  let mut lo := 0
  let mut hi := 0
  let some right ← beyond' left key arr base hint | return none
  if right then
    let maxofs := n - hint
    for _ in [0:n] do
      if ofs ≥ maxofs then break
      let some more ← beyond' left key arr base (hint + ofs) | return none
      if !more then break
      lastofs := ofs
      ofs := 2 * ofs + 1
    lo := hint + lastofs + 1
    hi := hint + min ofs maxofs
  else
    let maxofs := hint + 1
    for _ in [0:n] do
      if ofs ≥ maxofs then break
      let some found ← beyond' left key arr base (hint - ofs) | return none
      if found then break
      lastofs := ofs
      ofs := 2 * ofs + 1
    lo := hint + 1 - min ofs maxofs
    hi := hint - lastofs
  for _ in [0:n] do
    if lo ≥ hi then break
    let m := lo + (hi - lo) / 2
    let some more ← beyond' left key arr base m | return none
    if more then lo := m + 1 else hi := m
  return some hi) := rfl
section
variable {prog : Program} {w : World} {A : Around} {E : Value → Shared → Prop} {s : Shared} {κ : SortKind} {a₀ : Array Keyed} {rk : Value → Nat}
structure Cmp (prog : Program) (w : World) (A : Around) (s : Shared) (κ : SortKind) (a₀ : Array Keyed) (rk : Value → Nat) : Prop where
  ask : ∀ p ∈ a₀.toList, ∀ q ∈ a₀.toList, ∀ (E : Value → Shared → Prop) (Q : Bool → Shared → Prop), Q (decide (rk p.1 < rk q.1)) s → wpAny (model prog w) A (keyLt' κ p.1 q.1) Q E s
def R (rk : Value → Nat) (xs : Array Keyed) (i : Nat) : Nat := match xs[i]? with
  | some p => rk p.1
  | none => 0
theorem R_some {xs : Array Keyed} {i : Nat} {p : Keyed} (h : xs[i]? = some p) : R rk xs i = rk p.1 := by unfold R; rw [h]
theorem R_congr {xs ys : Array Keyed} {i j : Nat} (h : xs[i]? = ys[j]?) : R rk xs i = R rk ys j := by unfold R; rw [h]
theorem wpS_lt {st : SortSt} {p q : Keyed} {Q : Option Bool → SortSt → Prop} (C : Cmp prog w A s κ a₀ rk) (hk : kindOf st = κ) (hp : p ∈ a₀.toList) (hq : q ∈ a₀.toList) (h : Q (some (decide (rk p.1 < rk q.1))) st) :
    wpS (model prog w) A E s (lt' p q) Q st := by
  rw [lt'_eq]
  refine wpS_bind (wpS_get ?_)
  rw [hk]
  refine wpS_bind (wpS_lift (wpAny_attempt (C.ask p hp q hq _ _ ⟨rfl, ?_⟩)))
  exact wpS_pure h
theorem wpS_elem {st : SortSt} {arr : Array Keyed} {i : Nat} {p : Keyed} {Q : Keyed → SortSt → Prop} (hi : arr[i]? = some p) (h : Q p st) : wpS (model prog w) A E s (elem' arr i) Q st := by
  rw [elem'_eq, hi]
  exact wpS_pure h
def By (left : Bool) (k r : Nat) : Bool := if left then decide (r < k) else !decide (k < r)
theorem wpS_beyond {st : SortSt} {left : Bool} {key : Keyed} {arr : Array Keyed} {base i : Nat} {Q : Option Bool → SortSt → Prop} (C : Cmp prog w A s κ a₀ rk) (hk : kindOf st = κ) (hkey : key ∈ a₀.toList) (harr : ∀ p ∈ arr.toList, p ∈ a₀.toList)
    (hi : base + i < arr.size) (h : Q (some (By left (rk key.1) (R rk arr (base + i)))) st) : wpS (model prog w) A E s (beyond' left key arr base i) Q st := by
  unfold beyond'
  have e : arr[base + i]? = some arr[base + i] := getElem?_pos arr (base + i) hi
  have hm : arr[base + i] ∈ a₀.toList := harr _ (by simp)
  rw [R_some e] at h
  refine wpS_bind (wpS_elem e ?_)
  cases left with
  | true => exact wpS_lt C hk hm hkey h
  | false => exact wpS_bind (wpS_lt C hk hkey hm (wpS_pure h))
theorem By_anti {left : Bool} {k r r' : Nat} (h : By left k r = true) (le : r' ≤ r) : By left k r' = true := by
  unfold By at *
  cases left <;> simp at * <;> omega
theorem By_anti' {left : Bool} {k r r' : Nat} (h : By left k r = false) (le : r ≤ r') : By left k r' = false := by
  unfold By at *
  cases left <;> simp at * <;> omega
def Seg (rk : Value → Nat) (xs : Array Keyed) (lo hi : Nat) : Prop := ∀ i j, lo ≤ i → i ≤ j → j < hi → R rk xs i ≤ R rk xs j
abbrev GSt := Option (Option Nat) × Nat × Nat
theorem wpS_binLoop {st : SortSt} {left : Bool} {key : Keyed} {arr : Array Keyed} {base n lo hi : Nat} {Q : GSt → SortSt → Prop} (C : Cmp prog w A s κ a₀ rk) (hk : kindOf st = κ) (hkey : key ∈ a₀.toList) (harr : ∀ p ∈ arr.toList, p ∈ a₀.toList)
    (hn : base + n ≤ arr.size) (hs : Seg rk arr base (base + n)) (hlh : lo ≤ hi) (hhn : hi ≤ n)
    (h1 : ∀ i, i < lo → By left (rk key.1) (R rk arr (base + i)) = true) (h2 : ∀ i, hi ≤ i → i < n → By left (rk key.1) (R rk arr (base + i)) = false)
    (h : ∀ k l, k ≤ n → (∀ i, i < k → By left (rk key.1) (R rk arr (base + i)) = true) → (∀ i, k ≤ i → i < n → By left (rk key.1) (R rk arr (base + i)) = false) → Q (none, l, k) st) :
    wpS (model prog w) A E s (forIn [0:n] ((none, lo, hi) : GSt) fun _ __s =>
                if __s.snd.fst ≥ __s.snd.snd then pure (ForInStep.done (none, __s.snd.fst, __s.snd.snd))
                else do
                  let __x ← beyond' left key arr base (__s.snd.fst + (__s.snd.snd - __s.snd.fst) / 2)
                  match __x with
                    | some more =>
                      if more = true then
                        pure (ForInStep.yield (none, __s.snd.fst + (__s.snd.snd - __s.snd.fst) / 2 + 1, __s.snd.snd))
                      else pure (ForInStep.yield (none, __s.snd.fst, __s.snd.fst + (__s.snd.snd - __s.snd.fst) / 2))
                    | _ => pure (ForInStep.done (some none, __s.snd.fst, __s.snd.snd))) Q st := by
  refine wpS_forRange (I := fun x c st' => st' = st ∧ ∃ lo hi, c = (none, lo, hi) ∧ lo ≤ hi ∧ hi ≤ n ∧ hi - lo ≤ n - x ∧ (∀ i, i < lo → By left (rk key.1) (R rk arr (base + i)) = true) ∧ (∀ i, hi ≤ i → i < n → By left (rk key.1) (R rk arr (base + i)) = false)) ?step ?fin ⟨rfl, lo, hi, rfl, hlh, hhn, by omega, h1, h2⟩
  case fin =>
    rintro c st' ⟨rfl, lo, hi, rfl, a1, a2, a3, a4, a5⟩
    have : lo = hi := by omega
    subst this
    exact h _ _ a2 a4 a5
  case step =>
    rintro x c st' _ hx ⟨rfl, lo, hi, rfl, a1, a2, a3, a4, a5⟩
    dsimp only
    by_cases hge : lo ≥ hi
    · rw [if_pos hge]
      have : lo = hi := by omega
      subst this
      exact wpS_pure (h _ _ a2 a4 a5)
    · rw [if_neg hge]
      refine wpS_bind (wpS_beyond C hk hkey harr (by omega) ?_)
      dsimp only
      cases hb : By left (rk key.1) (R rk arr (base + (lo + (hi - lo) / 2))) with
      | true =>
        simp only [if_true]
        refine wpS_pure ⟨rfl, _, _, rfl, by omega, a2, by omega, fun i hi' => ?_, a5⟩
        exact By_anti hb (hs _ _ (by omega) (by omega) (by omega))
      | false =>
        simp only [Bool.false_eq_true, if_false]
        refine wpS_pure ⟨rfl, _, _, rfl, by omega, by omega, by omega, a4, fun i hi' hin => ?_⟩
        exact By_anti' hb (hs _ _ (by omega) (by omega) (by omega))
theorem wpS_gallop {st : SortSt} {left : Bool} {key : Keyed} {arr : Array Keyed} {base n hint : Nat} {Q : Option Nat → SortSt → Prop} (C : Cmp prog w A s κ a₀ rk) (hk : kindOf st = κ) (hkey : key ∈ a₀.toList) (harr : ∀ p ∈ arr.toList, p ∈ a₀.toList)
    (hn : base + n ≤ arr.size) (hh : hint < n) (hs : Seg rk arr base (base + n))
    (h : ∀ k, k ≤ n → (∀ i, i < k → By left (rk key.1) (R rk arr (base + i)) = true) → (∀ i, k ≤ i → i < n → By left (rk key.1) (R rk arr (base + i)) = false) → Q (some k) st) :
    wpS (model prog w) A E s (gallop' left key arr base n hint) Q st := by
  rw [gallop'_eq]
  refine wpS_bind (wpS_beyond C hk hkey harr (by omega) ?_)
  dsimp only
  cases hr : By left (rk key.1) (R rk arr (base + hint)) with
  | true =>
    simp only [if_true]
    refine wpS_bind (wpS_mono (wpS_forRange (I := fun x c st' => st' = st ∧ ∃ l o, c = (none, l, o) ∧ l < o ∧ x < o ∧ hint + l < n ∧ By left (rk key.1) (R rk arr (base + (hint + l))) = true)
      (Q := fun c st' => st' = st ∧ ∃ l o, c = (none, l, o) ∧ l < o ∧ hint + l < n ∧ By left (rk key.1) (R rk arr (base + (hint + l))) = true ∧ (o < n - hint → By left (rk key.1) (R rk arr (base + (hint + o))) = false)) ?step ?fin ⟨rfl, 0, 1, rfl, by omega, by omega, by omega, hr⟩) ?post)
    case fin =>
      rintro c st' ⟨rfl, l, o, rfl, a1, a2, a3, a4⟩
      exact ⟨rfl, l, o, rfl, a1, a3, a4, fun z => by omega⟩
    case step =>
      rintro x c st' _ hx ⟨rfl, l, o, rfl, a1, a2, a3, a4⟩
      dsimp only
      by_cases hge : o ≥ n - hint
      · rw [if_pos hge]
        exact wpS_pure ⟨rfl, l, o, rfl, a1, a3, a4, fun z => by omega⟩
      · rw [if_neg hge]
        refine wpS_bind (wpS_beyond C hk hkey harr (by omega) ?_)
        dsimp only
        cases hb : By left (rk key.1) (R rk arr (base + (hint + o))) with
        | true =>
          simp only [Bool.not_true, Bool.false_eq_true, if_false]
          exact wpS_pure ⟨rfl, o, 2 * o + 1, rfl, by omega, by omega, by omega, hb⟩
        | false =>
          simp only [Bool.not_false, if_true]
          exact wpS_pure ⟨rfl, l, o, rfl, a1, a3, a4, fun _ => hb⟩
    case post =>
      rintro c st' ⟨rfl, l, o, rfl, a1, a2, a3, a4⟩
      dsimp only
      refine wpS_bind (wpS_binLoop C hk hkey harr hn hs (by omega) (by omega) (fun i hi => ?_) (fun i hi hin => ?_) fun k l' b1 b2 b3 => wpS_pure (h k b1 b2 b3))
      · exact By_anti a3 (hs _ _ (by omega) (by omega) (by omega))
      · exact By_anti' (a4 (by omega)) (hs _ _ (by omega) (by omega) (by omega))
  | false =>
    simp only [Bool.false_eq_true, if_false]
    refine wpS_bind (wpS_mono (wpS_forRange (I := fun x c st' => st' = st ∧ ∃ l o, c = (none, l, o) ∧ l < o ∧ x < o ∧ l ≤ hint ∧ By left (rk key.1) (R rk arr (base + (hint - l))) = false)
      (Q := fun c st' => st' = st ∧ ∃ l o, c = (none, l, o) ∧ l < o ∧ l ≤ hint ∧ By left (rk key.1) (R rk arr (base + (hint - l))) = false ∧ (o < hint + 1 → By left (rk key.1) (R rk arr (base + (hint - o))) = true)) ?step ?fin ⟨rfl, 0, 1, rfl, by omega, by omega, by omega, hr⟩) ?post)
    case fin =>
      rintro c st' ⟨rfl, l, o, rfl, a1, a2, a3, a4⟩
      exact ⟨rfl, l, o, rfl, a1, a3, a4, fun z => by omega⟩
    case step =>
      rintro x c st' _ hx ⟨rfl, l, o, rfl, a1, a2, a3, a4⟩
      dsimp only
      by_cases hge : o ≥ hint + 1
      · rw [if_pos hge]
        exact wpS_pure ⟨rfl, l, o, rfl, a1, a3, a4, fun z => by omega⟩
      · rw [if_neg hge]
        refine wpS_bind (wpS_beyond C hk hkey harr (by omega) ?_)
        dsimp only
        cases hb : By left (rk key.1) (R rk arr (base + (hint - o))) with
        | true =>
          simp only [if_true]
          exact wpS_pure ⟨rfl, l, o, rfl, a1, a3, a4, fun _ => hb⟩
        | false =>
          simp only [Bool.false_eq_true, if_false]
          exact wpS_pure ⟨rfl, o, 2 * o + 1, rfl, by omega, by omega, by omega, hb⟩
    case post =>
      rintro c st' ⟨rfl, l, o, rfl, a1, a2, a3, a4⟩
      dsimp only
      refine wpS_bind (wpS_binLoop C hk hkey harr hn hs (by omega) (by omega) (fun i hi => ?_) (fun i hi hin => ?_) fun k l' b1 b2 b3 => wpS_pure (h k b1 b2 b3))
      · exact By_anti (a4 (by omega)) (hs _ _ (by omega) (by omega) (by omega))
      · exact By_anti' a3 (hs _ _ (by omega) (by omega) (by omega))
end
end Tim
set_option Elab.async false
set_option linter.all false
set_option maxRecDepth 100000
set_option maxHeartbeats 4000000
namespace Tim
open PySem PyProof.Rows
def setMinGallop' : Nat → StateT SortSt Sem Unit := sortPriv% PySem.Builtin.setMinGallop
theorem setMinGallop'_eq (g : Nat) : setMinGallop' g = modify fun s => SortSt.mk' (kindOf s) (arrOf s) (pendingOf s) g (failedOf s) := rfl
def mergeLo' : Array Keyed → Array Keyed → StateT SortSt Sem (Array Keyed) := sortPriv% PySem.Builtin.mergeLo
def mergeHi' : Array Keyed → Array Keyed → StateT SortSt Sem (Array Keyed) := sortPriv% PySem.Builtin.mergeHi
abbrev loDone (a b out : Array Keyed) (ia ib : Nat) : Array Keyed := out ++ a.extract ia a.size ++ b.extract ib b.size
abbrev loLast (a b out : Array Keyed) (ia ib : Nat) : Array Keyed := out ++ b.extract ib b.size ++ a.extract ia a.size
theorem mergeLo'_eq (a b : Array Keyed) : mergeLo' a b = (do
  rule "list.sort.merge-lo"
  let total := a.size + b.size
  let mut out : Array Keyed := #[← elem' b 0]
  let mut ia := 0
  let mut ib := 1
  if ib == b.size then return loDone a b out ia ib
  if ia + 1 == a.size then return loLast a b out ia ib
  let mut minGallop := gallopOf (← get)
  for _ in [0:total] do
    let mut acount := 0
    let mut bcount := 0
    for _ in [0:total] do
      let some bWins ← lt' (← elem' b ib) (← elem' a ia) | return loDone a b out ia ib
      if bWins then
        out := out.push (← elem' b ib); ib := ib + 1; bcount := bcount + 1; acount := 0
        if ib == b.size then return loDone a b out ia ib
        if bcount ≥ minGallop then break
      else
        out := out.push (← elem' a ia); ia := ia + 1; acount := acount + 1; bcount := 0
        if ia + 1 == a.size then return loLast a b out ia ib
        if acount ≥ minGallop then break
    rule "list.sort.gallop"
    minGallop := minGallop + 1
    for _ in [0:total] do
      if minGallop > 1 then minGallop := minGallop - 1
      setMinGallop' minGallop
      let some k ← gallop' false (← elem' b ib) a ia (a.size - ia) 0 | return loDone a b out ia ib
      acount := k
      if k > 0 then
        out := out ++ a.extract ia (ia + k); ia := ia + k
        if ia + 1 == a.size then return loLast a b out ia ib
        if ia == a.size then return loDone a b out ia ib
      out := out.push (← elem' b ib); ib := ib + 1
      if ib == b.size then return loDone a b out ia ib
      let some k ← gallop' true (← elem' a ia) b ib (b.size - ib) 0 | return loDone a b out ia ib
      bcount := k
      if k > 0 then
        out := out ++ b.extract ib (ib + k); ib := ib + k
        if ib == b.size then return loDone a b out ia ib
      out := out.push (← elem' a ia); ia := ia + 1
      if ia + 1 == a.size then return loLast a b out ia ib
      if acount < 7 && bcount < 7 then break
    minGallop := minGallop + 1
    setMinGallop' minGallop
  unsupported "internal:list.sort.merge-bound") := rfl
section
variable {rk : Value → Nat} {a b out : Array Keyed} {ia ib k : Nat}
def Le (rk : Value → Nat) (x y : Keyed) : Prop := rk x.1 ≤ rk y.1
def Srt (rk : Value → Nat) (l : List Keyed) : Prop := l.Pairwise (Le rk)
structure MI (rk : Value → Nat) (a b out : Array Keyed) (ia ib : Nat) : Prop where
  perm : (out.toList ++ (a.toList.drop ia ++ b.toList.drop ib)).Perm (a.toList ++ b.toList)
  sa : Srt rk (out.toList ++ a.toList.drop ia)
  sb : Srt rk (out.toList ++ b.toList.drop ib)
structure Mg (rk : Value → Nat) (a b r : Array Keyed) : Prop where
  perm : r.toList.Perm (a.toList ++ b.toList)
  srt : Srt rk r.toList
theorem ext_list (a : Array Keyed) (i j : Nat) : (a.extract i j).toList = (a.toList.drop i).take (j - i) := by
  rw [Array.toList_extract, List.extract_eq_take_drop]
theorem drop_split (l : List Keyed) (i k : Nat) : l.drop i = (l.drop i).take k ++ l.drop (i + k) := by
  rw [← List.drop_drop, List.take_append_drop]
theorem R_get {a : Array Keyed} {i : Nat} (h : i < a.size) : R rk a i = rk (a[i]).1 := R_some (getElem?_pos a i h)
theorem mem_drop {a : Array Keyed} {x : Keyed} (h : x ∈ a.toList.drop ia) : ∃ j, ia ≤ j ∧ j < a.size ∧ R rk a j = rk x.1 := by
  obtain ⟨j, hj, e⟩ := List.getElem_of_mem h
  rw [List.length_drop, Array.length_toList] at hj
  rw [List.getElem_drop, Array.getElem_toList] at e
  exact ⟨ia + j, by (clear e hj; omega), by (clear e; omega), by rw [R_get (by (clear e; omega)), e]⟩
theorem mem_take_drop {a : Array Keyed} {x : Keyed} (h : x ∈ (a.toList.drop ia).take k) : ∃ j, j < k ∧ ia + j < a.size ∧ R rk a (ia + j) = rk x.1 := by
  obtain ⟨j, hj, e⟩ := List.getElem_of_mem h
  rw [List.length_take, List.length_drop, Array.length_toList] at hj
  rw [List.getElem_take, List.getElem_drop, Array.getElem_toList] at e
  exact ⟨j, by (clear e; omega), by (clear e; omega), by rw [R_get (by (clear e; omega)), e]⟩
theorem srt_app {x y : List Keyed} : Srt rk (x ++ y) ↔ Srt rk x ∧ Srt rk y ∧ ∀ p ∈ x, ∀ q ∈ y, rk p.1 ≤ rk q.1 := List.pairwise_append
theorem MI.chunkB (m : MI rk a b out ia ib) (hle : ∀ i, i < k → ib + i < b.size → ∀ j, ia ≤ j → j < a.size → R rk b (ib + i) ≤ R rk a j) : MI rk a b (out ++ b.extract ib (ib + k)) ia (ib + k) := by
  have e : (out ++ b.extract ib (ib + k)).toList = out.toList ++ (b.toList.drop ib).take k := by rw [Array.toList_append, ext_list]; congr 2; omega
  have sp := drop_split b.toList ib k
  refine ⟨?_, ?_, ?_⟩
  · rw [e]
    refine List.Perm.trans ?_ m.perm
    rw [List.append_assoc]
    refine List.Perm.append_left _ ?_
    refine List.Perm.trans ?_ (List.Perm.of_eq (congrArg (a.toList.drop ia ++ ·) sp.symm))
    rw [← List.append_assoc]
    refine List.Perm.trans (List.Perm.append_right _ (List.perm_append_comm)) (List.Perm.of_eq (List.append_assoc _ _ _))
  · rw [e, List.append_assoc]
    have h1 := srt_app.mp m.sa
    have h2 := m.sb
    rw [sp] at h2
    have h3 := srt_app.mp h2
    have h4 := srt_app.mp h3.2.1
    refine srt_app.mpr ⟨h1.1, srt_app.mpr ⟨h4.1, h1.2.1, fun p hp q hq => ?_⟩, fun p hp q hq => ?_⟩
    · obtain ⟨i, i1, i2, i3⟩ := mem_take_drop (rk := rk) hp
      obtain ⟨j, j1, j2, j3⟩ := mem_drop (rk := rk) hq
      rw [← i3, ← j3]
      exact hle i i1 i2 j j1 j2
    · rcases List.mem_append.mp hq with hq | hq
      · exact h3.2.2 p hp q (List.mem_append_left _ hq)
      · exact h1.2.2 p hp q hq
  · rw [e, List.append_assoc, ← sp]
    exact m.sb
theorem MI.swap (m : MI rk a b out ia ib) : MI rk b a out ib ia := ⟨(List.Perm.append_left _ List.perm_append_comm).trans (m.perm.trans List.perm_append_comm), m.sb, m.sa⟩
theorem MI.chunkA (m : MI rk a b out ia ib) (hle : ∀ i, i < k → ia + i < a.size → ∀ j, ib ≤ j → j < b.size → R rk a (ia + i) ≤ R rk b j) : MI rk a b (out ++ a.extract ia (ia + k)) (ia + k) ib := (m.swap.chunkB hle).swap
theorem push_ext (h : ib < b.size) : out.push b[ib] = out ++ b.extract ib (ib + 1) := by
  apply Array.toList_inj.mp
  rw [Array.toList_push, Array.toList_append, ext_list]
  congr 1
  rw [show ib + 1 - ib = 1 by (clear h; omega), List.drop_eq_getElem_cons (by rw [Array.length_toList]; exact h)]
  rfl
theorem MI.pushB (m : MI rk a b out ia ib) (h : ib < b.size) (hle : ∀ j, ia ≤ j → j < a.size → R rk b ib ≤ R rk a j) : MI rk a b (out.push b[ib]) ia (ib + 1) := by
  rw [push_ext h]
  refine m.chunkB (k := 1) fun i hi hb j j1 j2 => ?_
  have : i = 0 := by (clear j2 j1 hb h; omega)
  subst this
  exact hle j j1 j2
theorem MI.pushA (m : MI rk a b out ia ib) (h : ia < a.size) (hle : ∀ j, ib ≤ j → j < b.size → R rk a ia ≤ R rk b j) : MI rk a b (out.push a[ia]) (ia + 1) ib := (m.swap.pushB h hle).swap
theorem MI.done (m : MI rk a b out ia ib) (h : ia = a.size ∨ ib = b.size) : Mg rk a b (loDone a b out ia ib) := by
  have e : (loDone a b out ia ib).toList = out.toList ++ (a.toList.drop ia ++ b.toList.drop ib) := by
    unfold loDone
    rw [Array.toList_append, Array.toList_append, ext_list, ext_list, List.append_assoc]
    congr 2
    · rw [List.take_of_length_le]; rw [List.length_drop, Array.length_toList]; exact Nat.le_refl _
    · rw [List.take_of_length_le]; rw [List.length_drop, Array.length_toList]; exact Nat.le_refl _
  refine ⟨by rw [e]; exact m.perm, ?_⟩
  rw [e]
  rcases h with h | h
  · rw [h, show a.toList.drop a.size = [] by rw [List.drop_eq_nil_of_le]; rw [Array.length_toList]; exact Nat.le_refl _, List.nil_append]
    exact m.sb
  · rw [h, show b.toList.drop b.size = [] by rw [List.drop_eq_nil_of_le]; rw [Array.length_toList]; exact Nat.le_refl _, List.append_nil]
    exact m.sa
theorem MI.last (m : MI rk a b out ia ib) (h : ∀ i j, ib ≤ i → i < b.size → ia ≤ j → j < a.size → R rk b i ≤ R rk a j) : Mg rk a b (loLast a b out ia ib) := by
  have m2 := m.chunkB (k := b.size - ib) fun i hi hb j j1 j2 => h _ _ (by (clear j2 j1 hb hi; omega)) hb j1 j2
  have e : (loLast a b out ia ib) = loDone a b (out ++ b.extract ib (ib + (b.size - ib))) ia (ib + (b.size - ib)) := by
    unfold loDone loLast
    apply Array.toList_inj.mp
    simp only [Array.toList_append, ext_list]
    have e1 : (b.toList.drop (ib + (b.size - ib))).take (b.size - (ib + (b.size - ib))) = [] := by
      rw [List.take_eq_nil_iff]; left; omega
    rw [e1, List.append_nil]
    congr 3
    (clear e1; omega)
  rw [e]
  by_cases hb : ib ≤ b.size
  · exact m2.done (.inr (by (clear e; omega)))
  · refine ⟨?_, ?_⟩
    · have := m2.perm
      have e2 : (loDone a b (out ++ b.extract ib (ib + (b.size - ib))) ia (ib + (b.size - ib))).toList = (out ++ b.extract ib (ib + (b.size - ib))).toList ++ (a.toList.drop ia ++ b.toList.drop (ib + (b.size - ib))) := by
        unfold loDone
        rw [Array.toList_append, Array.toList_append, ext_list, ext_list, List.append_assoc]
        congr 2
        · rw [List.take_of_length_le]; rw [List.length_drop, Array.length_toList]; exact Nat.le_refl _
        · rw [List.take_of_length_le]; rw [List.length_drop, Array.length_toList]; exact Nat.le_refl _
      rw [e2]; exact this
    · unfold loDone
      rw [Array.toList_append, Array.toList_append, ext_list (a := b) (i := ib + (b.size - ib)), show b.size - (ib + (b.size - ib)) = 0 by (clear hb e; omega), List.take_zero, List.append_nil, ext_list (a := a)]
      rw [List.take_of_length_le (by rw [List.length_drop, Array.length_toList]; exact Nat.le_refl _)]
      exact m2.sa
end
end Tim
set_option Elab.async false
set_option linter.all false
set_option maxRecDepth 100000
set_option maxHeartbeats 4000000
namespace Tim
open PySem PyProof.Rows
section
variable {prog : Program} {w : World} {A : Around} {E : Value → Shared → Prop} {s : Shared} {κ : SortKind} {a₀ : Array Keyed} {rk : Value → Nat}
/-- what the state keeps while two runs are merged -/
structure Kpt (st st' : SortSt) : Prop where
  k : kindOf st' = kindOf st
  a : arrOf st' = arrOf st
  p : pendingOf st' = pendingOf st
  f : failedOf st' = failedOf st
theorem Kpt.refl (st : SortSt) : Kpt st st := ⟨rfl, rfl, rfl, rfl⟩
theorem Kpt.trans {a b c : SortSt} (h : Kpt a b) (g : Kpt b c) : Kpt a c := ⟨g.k.trans h.k, g.a.trans h.a, g.p.trans h.p, g.f.trans h.f⟩
theorem wpS_setMG {st : SortSt} {g : Nat} {Q : Unit → SortSt → Prop} (h : ∀ st', Kpt st st' → Q () st') : wpS (model prog w) A E s (setMinGallop' g) Q st := by
  rw [setMinGallop'_eq]
  exact wpS_modify (h _ ⟨rfl, rfl, rfl, rfl⟩)
theorem wpS_ite {α : Type} {c : Prop} [Decidable c] {x y : StateT SortSt Sem α} {Q : α → SortSt → Prop} {st : SortSt} (h1 : c → wpS (model prog w) A E s x Q st) (h2 : ¬ c → wpS (model prog w) A E s y Q st) : wpS (model prog w) A E s (if c then x else y) Q st := by
  by_cases hc : c
  · rw [if_pos hc]; exact h1 hc
  · rw [if_neg hc]; exact h2 hc
theorem By_t {k r : Nat} (h : By true k r = true) : r < k := by simpa [By] using h
theorem By_f {k r : Nat} (h : By false k r = true) : r ≤ k := by simpa [By] using h
theorem By_t' {k r : Nat} (h : By true k r = false) : k ≤ r := by simpa [By] using h
theorem By_f' {k r : Nat} (h : By false k r = false) : k < r := by simpa [By] using h
theorem wpS_mergeLo {st : SortSt} {a b : Array Keyed} {Q : Array Keyed → SortSt → Prop} (C : Cmp prog w A s κ a₀ rk) (hk : kindOf st = κ) (ha : ∀ p ∈ a.toList, p ∈ a₀.toList) (hb : ∀ p ∈ b.toList, p ∈ a₀.toList)
    (ha1 : 1 ≤ a.size) (hb1 : 1 ≤ b.size) (sa : Seg rk a 0 a.size) (sb : Seg rk b 0 b.size) (h0 : R rk b 0 ≤ R rk a 0) (hl : R rk b (b.size - 1) ≤ R rk a (a.size - 1))
    (h : ∀ r st', Kpt st st' → Mg rk a b r → Q r st') : wpS (model prog w) A E s (mergeLo' a b) Q st := by
  have inb : ∀ i, i < b.size → ∃ p, b[i]? = some p ∧ p ∈ a₀.toList ∧ R rk b i = rk p.1 := fun i hi => ⟨b[i], getElem?_pos b i hi, hb _ (by simp), R_get hi⟩
  have ina : ∀ i, i < a.size → ∃ p, a[i]? = some p ∧ p ∈ a₀.toList ∧ R rk a i = rk p.1 := fun i hi => ⟨a[i], getElem?_pos a i hi, ha _ (by simp), R_get hi⟩
  have mid : ∀ i j, i < b.size → j + 1 = a.size → R rk b i ≤ R rk a j := fun i j hi hj => by
    have := sb i (b.size - 1) (by (clear hj hi hl h0 hb1 ha1 hk; lia)) (by (clear hj hl h0 hb1 ha1 hk; lia)) (by (clear hj hi hl h0 ha1 hk; lia))
    have e : a.size - 1 = j := by (clear this hi hl h0 hb1 ha1 hk; lia)
    rw [e] at hl
    (clear e hj hi h0 hb1 ha1 hk; lia)
  have m0 : MI rk a b #[b[0]] 0 1 := by
    have m : MI rk a b #[] 0 0 := by
      refine ⟨by simp, ?_, ?_⟩
      · show Srt rk ([] ++ a.toList.drop 0)
        rw [List.nil_append, List.drop_zero]
        refine List.pairwise_iff_getElem.mpr fun i j hi hj hij => ?_
        rw [Array.length_toList] at hi hj
        have := sa i j (by (clear hij hj hi hl h0 hb1 ha1 hk; lia)) (by (clear hj hi hl h0 hb1 ha1 hk; lia)) hj
        rw [R_get hi, R_get hj] at this
        simpa [Le] using this
      · show Srt rk ([] ++ b.toList.drop 0)
        rw [List.nil_append, List.drop_zero]
        refine List.pairwise_iff_getElem.mpr fun i j hi hj hij => ?_
        rw [Array.length_toList] at hi hj
        have := sb i j (by (clear hij hj hi hl h0 hb1 ha1 hk; lia)) (by (clear hj hi hl h0 hb1 ha1 hk; lia)) hj
        rw [R_get hi, R_get hj] at this
        simpa [Le] using this
    exact m.pushB (by (clear hl h0 ha1 hk; lia)) fun j _ j2 => Nat.le_trans h0 (sa 0 j (by (clear j2 hl h0 hb1 ha1 hk; lia)) (by (clear j2 hl h0 hb1 ha1 hk; lia)) j2)
  rw [mergeLo'_eq]
  refine wpS_bind (wpS_lift (wpAny_rule ⟨rfl, ?_⟩))
  refine wpS_bind (wpS_elem (p := b[0]) (getElem?_pos b 0 (by (clear hl h0 ha1 hk; lia))) ?_)
  dsimp only
  refine wpS_ite (fun e => ?_) (fun e => ?_)
  · have e : 1 = b.size := by simpa using e
    exact wpS_pure (h _ _ (.refl _) (m0.done (.inr e)))
  have eb : ¬ 1 = b.size := by simpa using e
  refine wpS_ite (fun e => ?_) (fun e => ?_)
  · have e : 1 = a.size := by simpa using e
    exact wpS_pure (h _ _ (.refl _) (m0.last fun i j _ hi _ hj => mid i j hi (by (clear hi eb hl h0 ha1 hk; lia))))
  have ea : ¬ 1 = a.size := by simpa using e
  refine wpS_bind (wpS_get ?_)
  refine wpS_bind (wpS_mono (wpS_forRange (I := fun x c st' => Kpt st st' ∧ ∃ out ia ib mg, c = (none, out, ia, ib, mg) ∧ MI rk a b out ia ib ∧ ia + 2 ≤ a.size ∧ ib + 1 ≤ b.size ∧ (a.size - ia) + (b.size - ib) + x ≤ a.size + b.size)
      (Q := fun c st' => Kpt st st' ∧ ∃ r cc, c = (some r, cc) ∧ Mg rk a b r) ?step ?fin ⟨.refl _, _, _, _, _, rfl, m0, by (clear e eb hl h0 hk; lia), by (clear ea e hl h0 ha1 hk; lia), by (clear ea e eb hl h0 ha1 hk; lia)⟩) ?post)
  case post =>
    rintro c st' ⟨kp, r, cc, rfl, m⟩
    exact wpS_pure (h _ _ kp m)
  case fin =>
    rintro c st' ⟨kp, out, ia, ib, mg, rfl, m, a1, b1, le⟩
    (clear b1 ea e eb hl h0 ha1 hk; lia)
  case step =>
    rintro x c st' _ hx ⟨kp, out, ia, ib, mg, rfl, m, a1, b1, le⟩
    dsimp only
    -- one by one
    refine wpS_bind (wpS_mono (wpS_forRange (I := fun y c st2 => st2 = st' ∧ ∃ out ia ib ac bc, c = (none, out, ia, ib, ac, bc) ∧ MI rk a b out ia ib ∧ ia + 2 ≤ a.size ∧ ib + 1 ≤ b.size ∧ (a.size - ia) + (b.size - ib) + x + y ≤ a.size + b.size)
      (Q := fun c st2 => st2 = st' ∧ ((∃ r cc, c = (some r, cc) ∧ Mg rk a b r) ∨ ∃ out ia ib ac bc, c = (none, out, ia, ib, ac, bc) ∧ MI rk a b out ia ib ∧ ia + 2 ≤ a.size ∧ ib + 1 ≤ b.size ∧ (a.size - ia) + (b.size - ib) + x + 1 ≤ a.size + b.size)) ?step1 ?fin1 ⟨rfl, _, _, _, _, _, rfl, m, a1, b1, by (clear b1 a1 hx ea e eb hl h0 ha1 hk; lia)⟩) ?post1)
    case fin1 =>
      rintro c st2 ⟨rfl, out, ia, ib, ac, bc, rfl, m, a1, b1, le⟩
      (clear b1 hx ea e eb hl h0 ha1 hk; lia)
    case step1 =>
      rintro y c st2 _ hy ⟨rfl, out, ia, ib, ac, bc, rfl, m, a1, b1, le⟩
      dsimp only
      obtain ⟨p, ep, mp, rp⟩ := inb ib (by (clear le a1 hy hx ea e eb hl h0 ha1 hk; lia))
      obtain ⟨q, eq, mq, rq⟩ := ina ia (by (clear rp ep le b1 hy hx ea e eb hl h0 ha1 hk; lia))
      refine wpS_bind (wpS_elem ep (wpS_bind (wpS_elem eq (wpS_bind (wpS_lt C (kp.k.trans hk) mp mq ?_)))))
      dsimp only
      have epb : p = b[ib] := by rw [getElem?_pos b ib (by (clear rq eq rp ep le a1 hy hx ea e eb hl h0 ha1 hk; lia))] at ep; exact (Option.some.inj ep).symm
      have eqa : q = a[ia] := by rw [getElem?_pos a ia (by (clear epb rq eq rp ep le b1 hy hx ea e eb hl h0 ha1 hk; lia))] at eq; exact (Option.some.inj eq).symm
      refine wpS_ite (fun lt => ?_) (fun lt => ?_)
      · have lt : R rk b ib < R rk a ia := by rw [rp, rq]; simpa using lt
        have m2 : MI rk a b (out.push p) ia (ib + 1) := by
          rw [epb]
          exact m.pushB (by (clear lt eqa epb rq eq rp ep le a1 hy hx ea e eb hl h0 ha1 hk; lia)) fun j j1 j2 => by have := sa ia j (by (clear j2 j1 lt eqa epb rq eq rp ep le b1 a1 hy hx ea e eb hl h0 ha1 hk; lia)) j1 j2; (clear j2 j1 eqa epb rq eq rp ep le b1 a1 hy hx ea e eb hl h0 ha1 hk; lia)
        refine wpS_bind (wpS_elem ep ?_)
        refine wpS_ite (fun e => ?_) (fun e => ?_)
        · exact wpS_pure ⟨rfl, .inl ⟨_, _, rfl, m2.done (.inr (by simpa using e))⟩⟩
        have e : ¬ ib + 1 = b.size := by simpa using e
        refine wpS_ite (fun _ => ?_) (fun _ => ?_)
        · exact wpS_pure ⟨rfl, .inr ⟨_, _, _, _, _, rfl, m2, a1, by (clear lt eqa epb rq eq rp ep le a1 hy hx ea eb hl h0 ha1 hk; lia), by (clear e lt eqa epb rq eq rp ep a1 hy hx ea eb hl h0 ha1 hk; lia)⟩⟩
        · exact wpS_pure ⟨rfl, _, _, _, _, _, rfl, m2, a1, by (clear lt eqa epb rq eq rp ep le a1 hy hx ea eb hl h0 ha1 hk; lia), by (clear e lt eqa epb rq eq rp ep a1 hy hx ea eb hl h0 ha1 hk; lia)⟩
      · have lt : R rk a ia ≤ R rk b ib := by rw [rp, rq]; simpa using lt
        have m2 : MI rk a b (out.push q) (ia + 1) ib := by
          rw [eqa]
          exact m.pushA (by (clear lt eqa epb rq eq rp ep le b1 hy hx ea e eb hl h0 ha1 hk; lia)) fun j j1 j2 => by have := sb ib j (by (clear j2 j1 lt eqa epb rq eq rp ep le b1 a1 hy hx ea e eb hl h0 ha1 hk; lia)) j1 j2; (clear j2 j1 eqa epb rq eq rp ep le b1 a1 hy hx ea e eb hl h0 ha1 hk; lia)
        refine wpS_bind (wpS_elem eq ?_)
        refine wpS_ite (fun e => ?_) (fun e => ?_)
        · have e : ia + 1 + 1 = a.size := by simpa using e
          exact wpS_pure ⟨rfl, .inl ⟨_, _, rfl, m2.last fun i j _ hi _ hj => mid i j hi (by (clear hi lt eqa epb rq eq rp ep le b1 a1 hy hx ea eb hl h0 ha1 hk; lia))⟩⟩
        have e : ¬ ia + 1 + 1 = a.size := by simpa using e
        refine wpS_ite (fun _ => ?_) (fun _ => ?_)
        · exact wpS_pure ⟨rfl, .inr ⟨_, _, _, _, _, rfl, m2, by (clear lt eqa epb rq eq rp ep le b1 hy hx ea eb hl h0 ha1 hk; lia), b1, by (clear e lt eqa epb rq eq rp ep b1 hy hx ea eb hl h0 ha1 hk; lia)⟩⟩
        · exact wpS_pure ⟨rfl, _, _, _, _, _, rfl, m2, by (clear lt eqa epb rq eq rp ep le b1 hy hx ea eb hl h0 ha1 hk; lia), b1, by (clear e lt eqa epb rq eq rp ep b1 hy hx ea eb hl h0 ha1 hk; lia)⟩
    case post1 =>
      rintro c st2 ⟨rfl, (⟨r, cc, rfl, mr⟩ | ⟨out, ia, ib, ac, bc, rfl, m, a1, b1, le⟩)⟩
      · exact wpS_pure ⟨kp, r, _, rfl, mr⟩
      dsimp only
      refine wpS_bind (wpS_lift (wpAny_rule ⟨rfl, ?_⟩))
      -- by leaps
      refine wpS_bind (wpS_mono (wpS_forRange (I := fun y c st3 => Kpt st st3 ∧ ∃ out ia ib mg ac bc, c = (none, out, ia, ib, mg, ac, bc) ∧ MI rk a b out ia ib ∧ ia + 2 ≤ a.size ∧ ib + 1 ≤ b.size ∧ (a.size - ia) + (b.size - ib) + x + 1 + y ≤ a.size + b.size)
        (Q := fun c st3 => Kpt st st3 ∧ ((∃ r cc, c = (some r, cc) ∧ Mg rk a b r) ∨ ∃ out ia ib mg ac bc, c = (none, out, ia, ib, mg, ac, bc) ∧ MI rk a b out ia ib ∧ ia + 2 ≤ a.size ∧ ib + 1 ≤ b.size ∧ (a.size - ia) + (b.size - ib) + x + 1 ≤ a.size + b.size)) ?step2 ?fin2 ⟨kp, _, _, _, _, _, _, rfl, m, a1, b1, by (clear b1 a1 hx ea e eb hl h0 ha1 hk; lia)⟩) ?post2)
      case fin2 =>
        rintro c st3 ⟨kp3, out, ia, ib, mg, ac, bc, rfl, m, a1, b1, le⟩
        (clear b1 a1 hx ea e eb hl h0 ha1 hk; lia)
      case post2 =>
        rintro c st3 ⟨kp3, (⟨r, cc, rfl, mr⟩ | ⟨out, ia, ib, mg, ac, bc, rfl, m, a1, b1, le⟩)⟩
        · exact wpS_pure ⟨kp3, r, _, rfl, mr⟩
        dsimp only
        refine wpS_bind (wpS_setMG fun st4 k4 => wpS_pure ⟨kp3.trans k4, _, _, _, _, rfl, m, a1, b1, by (clear b1 a1 hx ea e eb hl h0 ha1 hk; lia)⟩)
      case step2 =>
        rintro y c st3 _ hy ⟨kp3, out, ia, ib, mg, ac, bc, rfl, m, a1, b1, le⟩
        dsimp only
        refine wpS_ite (fun _ => ?_) (fun _ => ?_)
        all_goals
          refine wpS_bind (wpS_setMG fun st4 k4 => ?_)
          have kp4 := kp3.trans k4
          obtain ⟨p, ep, mp, rp⟩ := inb ib (by (clear le a1 hy hx ea e eb hl h0 ha1 hk; lia))
          have epb : p = b[ib] := by rw [getElem?_pos b ib (by (clear rp ep le a1 hy hx ea e eb hl h0 ha1 hk; lia))] at ep; exact (Option.some.inj ep).symm
          refine wpS_bind (wpS_elem ep (wpS_bind (wpS_gallop C (kp4.k.trans hk) mp ha (by (clear epb rp ep le b1 hy hx ea e eb hl h0 ha1 hk; lia)) (by (clear epb rp ep le b1 hy hx ea e eb hl h0 ha1 hk; lia)) (fun i j h1 h2 h3 => sa i j (by (clear h3 h2 h1 epb rp ep le b1 a1 hy hx ea e eb hl h0 ha1 hk; lia)) h2 (by (clear h2 h1 epb rp ep le b1 hy hx ea e eb hl h0 ha1 hk; lia))) fun k k1 k2 k3 => ?_)))
          dsimp only
          have mA : MI rk a b (out ++ a.extract ia (ia + k)) (ia + k) ib := m.chunkA (k := k) fun i hi hs j j1 j2 => by
            have e1 := By_f (k2 i hi)
            have e2 := sb ib j (by (clear e1 j2 j1 hs hi k1 epb rp ep le b1 a1 hy hx ea e eb hl h0 ha1 hk; lia)) j1 j2
            rw [rp] at e2
            (clear j2 j1 hs hi k1 epb rp ep le b1 a1 hy hx ea e eb hl h0 ha1 hk; lia)
          have nxt : ∀ j, ia + k ≤ j → j < a.size → R rk b ib ≤ R rk a j := fun j j1 j2 => by
            have := By_f' (k3 (j - ia) (by (clear j2 k1 epb rp ep le b1 a1 hy hx ea e eb hl h0 ha1 hk; lia)) (by (clear j1 k1 epb rp ep le b1 hy hx ea e eb hl h0 ha1 hk; lia)))
            rw [show ia + (j - ia) = j by (clear this j2 k1 epb rp ep le b1 a1 hy hx ea e eb hl h0 ha1 hk; lia)] at this
            rw [rp]; (clear j2 j1 k1 epb rp ep le b1 a1 hy hx ea e eb hl h0 ha1 hk; lia)
          apply wpS_ite
          case' h1 =>
            intro kpos
            refine wpS_ite (fun e => ?_) (fun e => ?_)
            · have e : ia + k + 1 = a.size := by simpa using e
              exact wpS_pure ⟨kp4, .inl ⟨_, _, rfl, mA.last fun i j _ hi _ hj => mid i j hi (by (clear hi kpos k1 epb rp ep le b1 a1 hy hx ea eb hl h0 ha1 hk; lia))⟩⟩
            have e1 : ¬ ia + k + 1 = a.size := by simpa using e
            refine wpS_ite (fun e => ?_) (fun e => ?_)
            · exact wpS_pure ⟨kp4, .inl ⟨_, _, rfl, mA.done (.inl (by simpa using e))⟩⟩
            have e2 : ¬ ia + k = a.size := by simpa using e
            have a3 : ia + k + 2 ≤ a.size := by (clear e kpos epb rp ep le b1 hy hx ea eb hl h0 ha1 hk; lia)
            have le3 : (a.size - (ia + k)) + (b.size - ib) + x + 1 + y ≤ a.size + b.size := by (clear a3 e2 e e1 kpos k1 epb rp ep b1 a1 hy hx ea eb hl h0 ha1 hk; lia)
            generalize out ++ a.extract ia (ia + k) = out3 at mA ⊢
            generalize ia + k = ia3 at mA nxt a3 le3 ⊢
          case' h2 =>
            intro kpos
            have k0 : k = 0 := by (clear k1 epb rp ep le b1 a1 hy hx ea e eb hl h0 ha1 hk; lia)
            have a3 : ia + 2 ≤ a.size := by (clear k0 kpos k1 epb rp ep le b1 hy hx ea e eb hl h0 ha1 hk; lia)
            have le3 : (a.size - ia) + (b.size - ib) + x + 1 + y ≤ a.size + b.size := by (clear a3 k0 kpos k1 epb rp ep b1 a1 hy hx ea e eb hl h0 ha1 hk; lia)
            subst k0
            replace nxt : ∀ j, ia ≤ j → j < a.size → R rk b ib ≤ R rk a j := nxt
            replace mA := m
          all_goals
            have mB := mA.pushB (by (clear kpos k1 le3 a3 epb rp ep le a1 hy hx ea e eb hl h0 ha1 hk; lia)) nxt
            rw [← epb] at mB
            refine wpS_bind (wpS_elem ep ?_)
            refine wpS_ite (fun e => ?_) (fun e => ?_)
            · exact wpS_pure ⟨kp4, .inl ⟨_, _, rfl, mB.done (.inr (by simpa using e))⟩⟩
            have e3 : ¬ ib + 1 = b.size := by simpa using e
            obtain ⟨q, eq, mq, rq⟩ := ina _ (show _ < a.size from Nat.lt_of_lt_of_le (Nat.lt_succ_of_lt (Nat.lt_succ_self _)) a3)
            refine wpS_bind (wpS_elem eq (wpS_bind (wpS_gallop C (kp4.k.trans hk) mq hb (by (clear rq eq e3 e kpos k1 le3 a3 epb rp ep le a1 hy hx ea eb hl h0 ha1 hk; lia)) (by (clear rq eq e kpos k1 le3 a3 epb rp ep le a1 hy hx ea eb hl h0 ha1 hk; lia)) (fun i j h1 h2 h3 => sb i j (by (clear h3 h2 h1 rq eq e3 e kpos k1 le3 a3 epb rp ep le b1 a1 hy hx ea eb hl h0 ha1 hk; lia)) h2 (by (clear h2 h1 rq eq e3 e kpos k1 le3 a3 epb rp ep le a1 hy hx ea eb hl h0 ha1 hk; lia))) fun k' l1 l2 l3 => ?_)))
            dsimp only
            have mC := mB.chunkB (k := k') fun i hi hs j j1 j2 => by
              have e1 := By_t (l2 i hi)
              have e2 := sa _ j (by (clear e1 j2 j1 hs hi l1 rq eq e3 e kpos k1 le3 a3 epb rp ep le b1 a1 hy hx ea eb hl h0 ha1 hk; lia)) j1 j2
              rw [rq] at e2
              (clear j2 j1 hs hi l1 rq eq e3 e kpos k1 le3 a3 epb rp ep le b1 a1 hy hx ea eb hl h0 ha1 hk; lia)
            apply wpS_ite
            case' h1 =>
              intro kpos
              refine wpS_ite (fun e => ?_) (fun e => ?_)
              · exact wpS_pure ⟨kp4, .inl ⟨_, _, rfl, mC.done (.inr (by simpa using e))⟩⟩
              have e5 : ¬ ib + 1 + k' = b.size := by simpa using e
              have nx : ∀ j, ib + 1 + k' ≤ j → j < b.size → rk q.1 ≤ R rk b j := fun j j1 j2 => by
                have := By_t' (l3 (j - (ib + 1)) (by (clear j2 e5 e kpos l1 rq eq e3 k1 le3 a3 epb rp ep le b1 a1 hy hx ea eb hl h0 ha1 hk; lia)) (by (clear j1 e5 e kpos l1 rq eq k1 le3 a3 epb rp ep le a1 hy hx ea eb hl h0 ha1 hk; lia)))
                rw [show ib + 1 + (j - (ib + 1)) = j by (clear this j2 e5 e kpos l1 rq eq e3 k1 le3 a3 epb rp ep le b1 a1 hy hx ea eb hl h0 ha1 hk; lia)] at this
                (clear j2 j1 e5 e kpos l1 rq eq e3 k1 le3 a3 epb rp ep le b1 a1 hy hx ea eb hl h0 ha1 hk; lia)
              have b3 : ib + 1 + k' + 1 ≤ b.size := by (clear e kpos rq eq e3 k1 le3 a3 epb rp ep le a1 hy hx ea eb hl h0 ha1 hk; lia)
            case' h2 =>
              intro kpos
              have k0 : k' = 0 := by (clear l1 rq eq e3 e k1 le3 a3 epb rp ep le b1 a1 hy hx ea eb hl h0 ha1 hk; lia)
              have nx : ∀ j, ib + 1 ≤ j → j < b.size → rk q.1 ≤ R rk b j := fun j j1 j2 => by
                have := By_t' (l3 (j - (ib + 1)) (by (clear j2 j1 k0 l1 rq eq e3 e k1 le3 a3 epb rp ep le b1 a1 hy hx ea eb hl h0 ha1 hk; lia)) (by (clear j1 k0 kpos l1 rq eq e k1 le3 a3 epb rp ep le a1 hy hx ea eb hl h0 ha1 hk; lia)))
                rw [show ib + 1 + (j - (ib + 1)) = j by (clear this j2 k0 kpos l1 rq eq e3 e k1 le3 a3 epb rp ep le b1 a1 hy hx ea eb hl h0 ha1 hk; lia)] at this
                (clear j2 j1 k0 kpos l1 rq eq e3 e k1 le3 a3 epb rp ep le b1 a1 hy hx ea eb hl h0 ha1 hk; lia)
              have b3 : ib + 1 + 1 ≤ b.size := by (clear k0 kpos l1 rq eq e k1 le3 a3 epb rp ep le a1 hy hx ea eb hl h0 ha1 hk; lia)
              replace mC := mB
            all_goals
              have mD := mC.pushA (by (clear b3 kpos l1 rq eq e3 e k1 le3 epb rp ep le b1 hy hx ea eb hl h0 ha1 hk; lia)) (fun j j1 j2 => by rw [rq]; exact nx j j1 j2)
              have eqa := Option.some.inj ((getElem?_pos a _ (by (clear b3 kpos l1 rq eq e3 e k1 le3 epb rp ep le b1 hy hx ea eb hl h0 ha1 hk; lia))).symm.trans eq)
              rw [eqa] at mD
              refine wpS_bind (wpS_elem eq ?_)
              refine wpS_ite (fun e => ?_) (fun e => ?_)
              · exact wpS_pure ⟨kp4, .inl ⟨_, _, rfl, mD.last fun i j _ hi _ hj => mid i j hi (by have e := eq_of_beq e; (clear hi eqa b3 kpos l1 rq eq e3 k1 le3 a3 epb rp ep le b1 a1 hy hx ea eb hl h0 ha1 hk; lia))⟩⟩
              have e6 : ¬ _ = a.size := fun z => e (beq_iff_eq.mpr z)
              refine wpS_ite (fun _ => ?_) (fun _ => ?_)
              · exact wpS_pure ⟨kp4, .inr ⟨_, _, _, _, _, _, rfl, mD, by (clear e eqa b3 kpos l1 rq eq e3 k1 le3 epb rp ep le b1 hy hx ea eb hl h0 ha1 hk; lia), by (clear e6 e eqa b3 kpos rq eq k1 le3 a3 epb rp ep le a1 hy hx ea eb hl h0 ha1 hk; lia), by (clear e6 e eqa b3 kpos l1 rq eq e3 k1 a3 epb rp ep b1 a1 hy hx ea eb hl h0 ha1 hk; lia)⟩⟩
              · exact wpS_pure ⟨kp4, _, _, _, _, _, _, rfl, mD, by (clear e eqa b3 kpos l1 rq eq e3 k1 le3 epb rp ep le b1 hy hx ea eb hl h0 ha1 hk; lia), by (clear e6 e eqa b3 kpos rq eq k1 le3 a3 epb rp ep le a1 hy hx ea eb hl h0 ha1 hk; lia), by (clear e6 e eqa b3 kpos l1 rq eq e3 k1 a3 epb rp ep hy hx ea eb hl h0 ha1 hk; lia)⟩
end
end Tim
set_option Elab.async false
set_option linter.all false
set_option maxRecDepth 100000
set_option maxHeartbeats 4000000
namespace Tim
open PySem PyProof.Rows
abbrev hiDone (a b out : Array Keyed) (na nb : Nat) : Array Keyed := a.extract 0 na ++ b.extract 0 nb ++ out.reverse
abbrev hiFirst (a b out : Array Keyed) (na nb : Nat) : Array Keyed := b.extract 0 nb ++ a.extract 0 na ++ out.reverse
theorem mergeHi'_eq (a b : Array Keyed) : mergeHi' a b = (do
  rule "list.sort.merge-hi"
  let total := a.size + b.size
  let mut na := a.size - 1
  let mut nb := b.size
  let mut out : Array Keyed := #[← elem' a na]
  if na == 0 then return hiDone a b out na nb
  if nb == 1 then return hiFirst a b out na nb
  let mut minGallop := gallopOf (← get)
  for _ in [0:total] do
    let mut acount := 0
    let mut bcount := 0
    for _ in [0:total] do
      let some aWins ← lt' (← elem' b (nb - 1)) (← elem' a (na - 1)) | return hiDone a b out na nb
      if aWins then
        na := na - 1; out := out.push (← elem' a na); acount := acount + 1; bcount := 0
        if na == 0 then return hiDone a b out na nb
        if acount ≥ minGallop then break
      else
        nb := nb - 1; out := out.push (← elem' b nb); bcount := bcount + 1; acount := 0
        if nb == 1 then return hiFirst a b out na nb
        if bcount ≥ minGallop then break
    rule "list.sort.gallop"
    minGallop := minGallop + 1
    for _ in [0:total] do
      if minGallop > 1 then minGallop := minGallop - 1
      setMinGallop' minGallop
      let some at_ ← gallop' false (← elem' b (nb - 1)) a 0 na (na - 1) | return hiDone a b out na nb
      let k := na - at_
      acount := k
      if k > 0 then
        out := out ++ (a.extract at_ na).reverse; na := at_
        if na == 0 then return hiDone a b out na nb
      nb := nb - 1; out := out.push (← elem' b nb)
      if nb == 1 then return hiFirst a b out na nb
      let some at_ ← gallop' true (← elem' a (na - 1)) b 0 nb (nb - 1) | return hiDone a b out na nb
      let k := nb - at_
      bcount := k
      if k > 0 then
        out := out ++ (b.extract at_ nb).reverse; nb := at_
        if nb == 1 then return hiFirst a b out na nb
        if nb == 0 then return hiDone a b out na nb
      na := na - 1; out := out.push (← elem' a na)
      if na == 0 then return hiDone a b out na nb
      if acount < 7 && bcount < 7 then break
    minGallop := minGallop + 1
    setMinGallop' minGallop
  unsupported "internal:list.sort.merge-bound") := rfl
section
variable {rk : Value → Nat} {a b out : Array Keyed} {na nb k : Nat}
structure MH (rk : Value → Nat) (a b out : Array Keyed) (na nb : Nat) : Prop where
  perm : (a.toList.take na ++ (b.toList.take nb ++ out.toList.reverse)).Perm (a.toList ++ b.toList)
  sa : Srt rk (a.toList.take na ++ out.toList.reverse)
  sb : Srt rk (b.toList.take nb ++ out.toList.reverse)
theorem take_split (l : List Keyed) {i j : Nat} (h : i ≤ j) : l.take j = l.take i ++ (l.drop i).take (j - i) := by
  rw [List.take_drop, show i + (j - i) = j by lia]
  have := (List.take_append_drop i (l.take j)).symm
  rwa [List.take_take, Nat.min_eq_left h] at this
theorem mem_take' {a : Array Keyed} {x : Keyed} (h : x ∈ a.toList.take na) : ∃ j, j < na ∧ j < a.size ∧ R rk a j = rk x.1 := by
  have h' : x ∈ (a.toList.drop 0).take na := by rw [List.drop_zero]; exact h
  obtain ⟨j, j1, j2, j3⟩ := mem_take_drop (rk := rk) h'
  rw [Nat.zero_add] at j2 j3
  exact ⟨j, j1, j2, j3⟩
theorem MH.chunkA (m : MH rk a b out na nb) {at_ : Nat} (hat : at_ ≤ na) (hle : ∀ i, at_ ≤ i → i < na → i < a.size → ∀ j, j < nb → j < b.size → R rk b j ≤ R rk a i) : MH rk a b (out ++ (a.extract at_ na).reverse) at_ nb := by
  have e : (out ++ (a.extract at_ na).reverse).toList.reverse = (a.toList.drop at_).take (na - at_) ++ out.toList.reverse := by
    rw [Array.toList_append, List.reverse_append, Array.toList_reverse, List.reverse_reverse, ext_list]
  have sp := take_split a.toList hat
  refine ⟨?_, ?_, ?_⟩
  · rw [e]
    refine List.Perm.trans ?_ m.perm
    rw [sp, List.append_assoc]
    refine List.Perm.append_left _ ?_
    rw [← List.append_assoc, ← List.append_assoc]
    exact List.Perm.append_right _ List.perm_append_comm
  · rw [e, ← List.append_assoc, ← sp]
    exact m.sa
  · rw [e]
    have h1 := m.sa
    rw [sp, List.append_assoc] at h1
    have h2 := srt_app.mp (srt_app.mp h1).2.1
    have h3 := srt_app.mp m.sb
    refine srt_app.mpr ⟨h3.1, srt_app.mpr ⟨h2.1, h3.2.1, h2.2.2⟩, fun p hp q hq => ?_⟩
    rcases List.mem_append.mp hq with hq | hq
    · obtain ⟨i, i1, i2, i3⟩ := mem_take' (rk := rk) hp
      obtain ⟨j, j1, j2, j3⟩ := mem_take_drop (rk := rk) hq
      rw [← i3, ← j3]
      exact hle _ (by (clear j3 j2 j1 i3 i2 i1 h3 h2 sp e hat; lia)) (by (clear j3 j2 i3 i2 i1 h3 h2 sp e hat; lia)) j2 i i1 i2
    · exact h3.2.2 p hp q hq
theorem MH.swap (m : MH rk a b out na nb) : MH rk b a out nb na := by
  refine ⟨?_, m.sb, m.sa⟩
  refine List.Perm.trans ?_ (m.perm.trans List.perm_append_comm)
  rw [← List.append_assoc, ← List.append_assoc]
  exact List.Perm.append_right _ List.perm_append_comm
theorem MH.chunkB (m : MH rk a b out na nb) {at_ : Nat} (hat : at_ ≤ nb) (hle : ∀ i, at_ ≤ i → i < nb → i < b.size → ∀ j, j < na → j < a.size → R rk a j ≤ R rk b i) : MH rk a b (out ++ (b.extract at_ nb).reverse) na at_ := (m.swap.chunkA hat hle).swap
theorem push_rev (h1 : 1 ≤ na) (h : na ≤ a.size) : out.push (a[na - 1]'(by lia)) = out ++ (a.extract (na - 1) na).reverse := by
  have e := push_ext (out := #[]) (b := a) (ib := na - 1) (by lia)
  rw [show na - 1 + 1 = na by (clear e h; lia)] at e
  have e2 : a.extract (na - 1) na = #[a[na - 1]'(by (clear e; lia))] := by
    apply Array.toList_inj.mp
    have := congrArg Array.toList e
    rw [Array.toList_append] at this
    simpa using this.symm
  rw [e2]
  apply Array.toList_inj.mp
  simp
theorem MH.pushA (m : MH rk a b out na nb) (h1 : 1 ≤ na) (h : na ≤ a.size) (hle : ∀ j, j < nb → j < b.size → R rk b j ≤ R rk a (na - 1)) : MH rk a b (out.push (a[na - 1]'(by lia))) (na - 1) nb := by
  rw [push_rev h1 h]
  refine m.chunkA (by (clear h h1; lia)) fun i i1 i2 i3 j j1 j2 => ?_
  have : i = na - 1 := by (clear j2 j1 i3 h h1; lia)
  subst this
  exact hle j j1 j2
theorem MH.pushB (m : MH rk a b out na nb) (h1 : 1 ≤ nb) (h : nb ≤ b.size) (hle : ∀ j, j < na → j < a.size → R rk a j ≤ R rk b (nb - 1)) : MH rk a b (out.push (b[nb - 1]'(by lia))) na (nb - 1) := (m.swap.pushA h1 h hle).swap
theorem hi_list : (hiDone a b out na nb).toList = a.toList.take na ++ (b.toList.take nb ++ out.toList.reverse) := by
  unfold hiDone
  rw [Array.toList_append, Array.toList_append, ext_list, ext_list, Array.toList_reverse, List.append_assoc]
  rfl
theorem MH.done (m : MH rk a b out na nb) (h : na = 0 ∨ nb = 0) : Mg rk a b (hiDone a b out na nb) := by
  refine ⟨by rw [hi_list]; exact m.perm, ?_⟩
  rw [hi_list]
  rcases h with h | h
  · subst h
    exact m.sb
  · subst h
    exact m.sa
theorem MH.first (m : MH rk a b out na nb) (h : ∀ i j, i < nb → i < b.size → j < na → j < a.size → R rk b i ≤ R rk a j) : Mg rk a b (hiFirst a b out na nb) := by
  have m2 := m.chunkA (at_ := 0) (by lia) fun i _ i2 i3 j j1 j2 => h j i j1 j2 i2 i3
  have e : hiFirst a b out na nb = hiDone a b (out ++ (a.extract 0 na).reverse) 0 nb := by
    apply Array.toList_inj.mp
    rw [hi_list, hi_list, Array.toList_append, List.reverse_append, Array.toList_reverse, List.reverse_reverse, ext_list]
    simp
  rw [e]
  exact m2.done (.inl rfl)
end
section
variable {prog : Program} {w : World} {A : Around} {E : Value → Shared → Prop} {s : Shared} {κ : SortKind} {a₀ : Array Keyed} {rk : Value → Nat}
theorem wpS_mergeHi {st : SortSt} {a b : Array Keyed} {Q : Array Keyed → SortSt → Prop} (C : Cmp prog w A s κ a₀ rk) (hk : kindOf st = κ) (ha : ∀ p ∈ a.toList, p ∈ a₀.toList) (hb : ∀ p ∈ b.toList, p ∈ a₀.toList)
    (ha1 : 1 ≤ a.size) (hb1 : 1 ≤ b.size) (sa : Seg rk a 0 a.size) (sb : Seg rk b 0 b.size) (h0 : R rk b 0 ≤ R rk a 0) (hl : R rk b (b.size - 1) ≤ R rk a (a.size - 1))
    (h : ∀ r st', Kpt st st' → Mg rk a b r → Q r st') : wpS (model prog w) A E s (mergeHi' a b) Q st := by
  have inb : ∀ i, i < b.size → ∃ p, b[i]? = some p ∧ p ∈ a₀.toList ∧ R rk b i = rk p.1 := fun i hi => ⟨b[i], getElem?_pos b i hi, hb _ (by simp), R_get hi⟩
  have ina : ∀ i, i < a.size → ∃ p, a[i]? = some p ∧ p ∈ a₀.toList ∧ R rk a i = rk p.1 := fun i hi => ⟨a[i], getElem?_pos a i hi, ha _ (by simp), R_get hi⟩
  have mid : ∀ i j nb, i < nb → nb = 1 → j < a.size → R rk b i ≤ R rk a j := fun i j nb hi hn hj => by
    have := sa 0 j (by (clear hj hn hi hl h0 hb1 ha1 hk; lia)) (by (clear hj hn hi hl h0 hb1 ha1 hk; lia)) hj
    have e : i = 0 := by (clear this hj hl h0 hb1 ha1 hk; lia)
    subst e
    (clear hi hj hn hl hb1 ha1 hk; lia)
  have m0 : MH rk a b #[a[a.size - 1]] (a.size - 1) b.size := by
    have m : MH rk a b #[] a.size b.size := by
      refine ⟨?_, ?_, ?_⟩
      · rw [← Array.length_toList, ← Array.length_toList, List.take_length, List.take_length]; simp
      · rw [← Array.length_toList, List.take_length]
        show Srt rk (a.toList ++ [])
        rw [List.append_nil]
        refine List.pairwise_iff_getElem.mpr fun i j hi hj hij => ?_
        rw [Array.length_toList] at hi hj
        have := sa i j (by (clear hij hj hi hl h0 hb1 ha1 hk; lia)) (by (clear hj hi hl h0 hb1 ha1 hk; lia)) hj
        rw [R_get hi, R_get hj] at this
        simpa [Le] using this
      · rw [← Array.length_toList, List.take_length]
        show Srt rk (b.toList ++ [])
        rw [List.append_nil]
        refine List.pairwise_iff_getElem.mpr fun i j hi hj hij => ?_
        rw [Array.length_toList] at hi hj
        have := sb i j (by (clear hij hj hi hl h0 hb1 ha1 hk; lia)) (by (clear hj hi hl h0 hb1 ha1 hk; lia)) hj
        rw [R_get hi, R_get hj] at this
        simpa [Le] using this
    exact m.pushA ha1 (Nat.le_refl _) fun j j1 j2 => Nat.le_trans (sb j (b.size - 1) (by (clear j2 j1 hl h0 hb1 ha1 hk; lia)) (by (clear j2 hl h0 hb1 ha1 hk; lia)) (by (clear j2 j1 hl h0 ha1 hk; lia))) hl
  rw [mergeHi'_eq]
  refine wpS_bind (wpS_lift (wpAny_rule ⟨rfl, ?_⟩))
  refine wpS_bind (wpS_elem (p := a[a.size - 1]) (getElem?_pos a _ (by (clear hl h0 hb1 hk; lia))) ?_)
  dsimp only
  refine wpS_ite (fun e => ?_) (fun e => ?_)
  · exact wpS_pure (h _ _ (.refl _) (m0.done (.inl (by simpa using e))))
  have ea : ¬ a.size - 1 = 0 := fun z => e (beq_iff_eq.mpr z)
  refine wpS_ite (fun e => ?_) (fun e => ?_)
  · exact wpS_pure (h _ _ (.refl _) (m0.first fun i j i1 i2 j1 j2 => mid i j _ i1 (by simpa using e) j2))
  have eb : ¬ b.size = 1 := by simpa using e
  refine wpS_bind (wpS_get ?_)
  refine wpS_bind (wpS_mono (wpS_forRange (I := fun x c st' => Kpt st st' ∧ ∃ na nb out mg, c = (none, na, nb, out, mg) ∧ MH rk a b out na nb ∧ 1 ≤ na ∧ 2 ≤ nb ∧ na ≤ a.size ∧ nb ≤ b.size ∧ na + nb + x ≤ a.size + b.size)
      (Q := fun c st' => Kpt st st' ∧ ∃ r cc, c = (some r, cc) ∧ Mg rk a b r) ?step ?fin ⟨.refl _, _, _, _, _, rfl, m0, by (clear eb e hl h0 hb1 hk; lia), by (clear e ea hl h0 hk; lia), by (clear eb e ea hl h0 hb1 hk; lia), by (clear eb e ea hl h0 hb1 hk; lia), by (clear eb e ea hl h0 hb1 hk; lia)⟩) ?post)
  case post =>
    rintro c st' ⟨kp, r, cc, rfl, m⟩
    exact wpS_pure (h _ _ kp m)
  case fin =>
    rintro c st' ⟨kp, na, nb, out, mg, rfl, m, a1, b1, a2, b2, le⟩
    (clear b2 a2 b1 eb e ea hl h0 hb1 hk; lia)
  case step =>
    rintro x c st' _ hx ⟨kp, na, nb, out, mg, rfl, m, a1, b1, a2, b2, le⟩
    dsimp only
    refine wpS_bind (wpS_mono (wpS_forRange (I := fun y c st2 => st2 = st' ∧ ∃ na nb out ac bc, c = (none, na, nb, out, ac, bc) ∧ MH rk a b out na nb ∧ 1 ≤ na ∧ 2 ≤ nb ∧ na ≤ a.size ∧ nb ≤ b.size ∧ na + nb + x + y ≤ a.size + b.size)
      (Q := fun c st2 => st2 = st' ∧ ((∃ r cc, c = (some r, cc) ∧ Mg rk a b r) ∨ ∃ na nb out ac bc, c = (none, na, nb, out, ac, bc) ∧ MH rk a b out na nb ∧ 1 ≤ na ∧ 2 ≤ nb ∧ na ≤ a.size ∧ nb ≤ b.size ∧ na + nb + x + 1 ≤ a.size + b.size)) ?step1 ?fin1 ⟨rfl, _, _, _, _, _, rfl, m, a1, b1, a2, b2, by (clear b2 a2 b1 a1 hx eb e ea hl h0 hb1 hk; lia)⟩) ?post1)
    case fin1 =>
      rintro c st2 ⟨rfl, na, nb, out, ac, bc, rfl, m, a1, b1, a2, b2, le⟩
      (clear b2 a2 b1 hx eb e ea hl h0 hb1 hk; lia)
    case step1 =>
      rintro y c st2 _ hy ⟨rfl, na, nb, out, ac, bc, rfl, m, a1, b1, a2, b2, le⟩
      dsimp only
      obtain ⟨p, ep, mp, rp⟩ := inb (nb - 1) (by (clear le a2 b1 a1 hy hx eb e ea hl h0 hb1 hk; lia))
      obtain ⟨q, eq, mq, rq⟩ := ina (na - 1) (by (clear rp ep le b2 b1 a1 hy hx eb e ea hl h0 hb1 hk; lia))
      refine wpS_bind (wpS_elem ep (wpS_bind (wpS_elem eq (wpS_bind (wpS_lt C (kp.k.trans hk) mp mq ?_)))))
      dsimp only
      have epb : b[nb - 1] = p := Option.some.inj ((getElem?_pos b _ (by (clear rq eq rp ep le a2 b1 a1 hy hx eb e ea hl h0 hb1 hk; lia))).symm.trans ep)
      have eqa : a[na - 1] = q := Option.some.inj ((getElem?_pos a _ (by (clear epb rq eq rp ep le b2 b1 a1 hy hx eb e ea hl h0 hb1 hk; lia))).symm.trans eq)
      refine wpS_ite (fun lt => ?_) (fun lt => ?_)
      · have lt : R rk b (nb - 1) < R rk a (na - 1) := by rw [rp, rq]; simpa using lt
        have m2 := m.pushA a1 a2 fun j j1 j2 => by have := sb j (nb - 1) (by (clear j2 j1 lt eqa epb rq eq rp ep le b2 a2 b1 a1 hy hx eb e ea hl h0 hb1 hk; lia)) (by (clear j2 lt eqa epb rq eq rp ep le b2 a2 b1 a1 hy hx eb e ea hl h0 hb1 hk; lia)) (by (clear j2 j1 lt eqa epb rq eq rp ep le a2 b1 a1 hy hx eb e ea hl h0 hb1 hk; lia)); (clear j2 j1 eqa epb rq eq rp ep le b2 a2 b1 a1 hy hx eb e ea hl h0 hb1 hk; lia)
        rw [eqa] at m2
        refine wpS_bind (wpS_elem eq ?_)
        refine wpS_ite (fun e => ?_) (fun e => ?_)
        · exact wpS_pure ⟨rfl, .inl ⟨_, _, rfl, m2.done (.inl (by simpa using e))⟩⟩
        have e : ¬ na - 1 = 0 := fun z => e (beq_iff_eq.mpr z)
        refine wpS_ite (fun _ => ?_) (fun _ => ?_)
        · exact wpS_pure ⟨rfl, .inr ⟨_, _, _, _, _, rfl, m2, by (clear lt eqa epb rq eq rp ep le b2 a2 b1 a1 hy hx eb ea hl h0 hb1 hk; lia), b1, by (clear e lt eqa epb rq eq rp ep le b2 b1 a1 hy hx eb ea hl h0 hb1 hk; lia), b2, by (clear e lt eqa epb rq eq rp ep b2 a2 b1 hy hx eb ea hl h0 hb1 hk; lia)⟩⟩
        · exact wpS_pure ⟨rfl, _, _, _, _, _, rfl, m2, by (clear lt eqa epb rq eq rp ep le b2 a2 b1 a1 hy hx eb ea hl h0 hb1 hk; lia), b1, by (clear e lt eqa epb rq eq rp ep le b2 b1 a1 hy hx eb ea hl h0 hb1 hk; lia), b2, by (clear e lt eqa epb rq eq rp ep b2 a2 b1 hy hx eb ea hl h0 hb1 hk; lia)⟩
      · have lt : R rk a (na - 1) ≤ R rk b (nb - 1) := by rw [rp, rq]; simpa using lt
        have m2 := m.pushB (by (clear lt eqa epb rq eq rp ep le b2 a2 a1 hy hx eb e ea hl h0 hb1 hk; lia)) b2 fun j j1 j2 => by have := sa j (na - 1) (by (clear j2 j1 lt eqa epb rq eq rp ep le b2 a2 b1 a1 hy hx eb e ea hl h0 hb1 hk; lia)) (by (clear j2 lt eqa epb rq eq rp ep le b2 a2 b1 a1 hy hx eb e ea hl h0 hb1 hk; lia)) (by (clear j2 j1 lt eqa epb rq eq rp ep le b2 b1 a1 hy hx eb e ea hl h0 hb1 hk; lia)); (clear j2 j1 eqa epb rq eq rp ep le b2 a2 b1 a1 hy hx eb e ea hl h0 hb1 hk; lia)
        rw [epb] at m2
        refine wpS_bind (wpS_elem ep ?_)
        refine wpS_ite (fun e => ?_) (fun e => ?_)
        · exact wpS_pure ⟨rfl, .inl ⟨_, _, rfl, m2.first fun i j i1 i2 j1 j2 => mid i j _ i1 (eq_of_beq e) j2⟩⟩
        have e : ¬ nb - 1 = 1 := fun z => e (beq_iff_eq.mpr z)
        refine wpS_ite (fun _ => ?_) (fun _ => ?_)
        · exact wpS_pure ⟨rfl, .inr ⟨_, _, _, _, _, rfl, m2, a1, by (clear lt eqa epb rq eq rp ep le b2 a2 a1 hy hx eb ea hl h0 hb1 hk; lia), a2, by (clear e lt eqa epb rq eq rp ep le a2 b1 a1 hy hx eb ea hl h0 hb1 hk; lia), by (clear e lt eqa epb rq eq rp ep b2 a2 a1 hy hx eb ea hl h0 hb1 hk; lia)⟩⟩
        · exact wpS_pure ⟨rfl, _, _, _, _, _, rfl, m2, a1, by (clear lt eqa epb rq eq rp ep le b2 a2 a1 hy hx eb ea hl h0 hb1 hk; lia), a2, by (clear e lt eqa epb rq eq rp ep le a2 b1 a1 hy hx eb ea hl h0 hb1 hk; lia), by (clear e lt eqa epb rq eq rp ep b2 a2 a1 hy hx eb ea hl h0 hb1 hk; lia)⟩
    case post1 =>
      rintro c st2 ⟨rfl, (⟨r, cc, rfl, mr⟩ | ⟨na, nb, out, ac, bc, rfl, m, a1, b1, a2, b2, le⟩)⟩
      · exact wpS_pure ⟨kp, r, _, rfl, mr⟩
      dsimp only
      refine wpS_bind (wpS_lift (wpAny_rule ⟨rfl, ?_⟩))
      refine wpS_bind (wpS_mono (wpS_forRange (I := fun y c st3 => Kpt st st3 ∧ ∃ na nb out mg ac bc, c = (none, na, nb, out, mg, ac, bc) ∧ MH rk a b out na nb ∧ 1 ≤ na ∧ 2 ≤ nb ∧ na ≤ a.size ∧ nb ≤ b.size ∧ na + nb + x + 1 + y ≤ a.size + b.size)
        (Q := fun c st3 => Kpt st st3 ∧ ((∃ r cc, c = (some r, cc) ∧ Mg rk a b r) ∨ ∃ na nb out mg ac bc, c = (none, na, nb, out, mg, ac, bc) ∧ MH rk a b out na nb ∧ 1 ≤ na ∧ 2 ≤ nb ∧ na ≤ a.size ∧ nb ≤ b.size ∧ na + nb + x + 1 ≤ a.size + b.size)) ?step2 ?fin2 ⟨kp, _, _, _, _, _, _, rfl, m, a1, b1, a2, b2, by (clear b2 a2 b1 a1 hx eb e ea hl h0 hb1 hk; lia)⟩) ?post2)
      case fin2 =>
        rintro c st3 ⟨kp3, na, nb, out, mg, ac, bc, rfl, m, a1, b1, a2, b2, le⟩
        (clear b2 a2 b1 a1 hx eb e ea hl h0 hb1 hk; lia)
      case post2 =>
        rintro c st3 ⟨kp3, (⟨r, cc, rfl, mr⟩ | ⟨na, nb, out, mg, ac, bc, rfl, m, a1, b1, a2, b2, le⟩)⟩
        · exact wpS_pure ⟨kp3, r, _, rfl, mr⟩
        dsimp only
        refine wpS_bind (wpS_setMG fun st4 k4 => wpS_pure ⟨kp3.trans k4, _, _, _, _, rfl, m, a1, b1, a2, b2, by (clear b2 a2 b1 a1 hx eb e ea hl h0 hb1 hk; lia)⟩)
      case step2 =>
        rintro y c st3 _ hy ⟨kp3, na, nb, out, mg, ac, bc, rfl, m, a1, b1, a2, b2, le⟩
        dsimp only
        refine wpS_ite (fun _ => ?_) (fun _ => ?_)
        all_goals
          refine wpS_bind (wpS_setMG fun st4 k4 => ?_)
          have kp4 := kp3.trans k4
          obtain ⟨p, ep, mp, rp⟩ := inb (nb - 1) (by (clear le a2 b1 a1 hy hx eb e ea hl h0 hb1 hk; lia))
          have epb : b[nb - 1] = p := Option.some.inj ((getElem?_pos b _ (by (clear rp ep le a2 b1 a1 hy hx eb e ea hl h0 hb1 hk; lia))).symm.trans ep)
          refine wpS_bind (wpS_elem ep (wpS_bind (wpS_gallop C (kp4.k.trans hk) mp ha (by (clear epb rp ep le b2 b1 a1 hy hx eb e ea hl h0 hb1 hk; lia)) (by (clear epb rp ep le b2 a2 b1 hy hx eb e ea hl h0 hb1 hk; lia)) (fun i j h1 h2 h3 => sa i j (by (clear h3 h2 h1 epb rp ep le b2 a2 b1 a1 hy hx eb e ea hl h0 hb1 hk; lia)) h2 (by (clear h2 h1 epb rp ep le b2 b1 a1 hy hx eb e ea hl h0 hb1 hk; lia))) fun k k1 k2 k3 => ?_)))
          dsimp only
          simp only [Nat.zero_add] at k2 k3
          have mA := m.chunkA k1 fun i i1 i2 i3 j j1 j2 => by
            have e1 := By_f' (k3 i i1 i2)
            have e2 := sb j (nb - 1) (by (clear e1 j2 j1 i3 i2 i1 k1 epb rp ep le b2 a2 b1 a1 hy hx eb e ea hl h0 hb1 hk; lia)) (by (clear e1 j2 i3 i2 i1 k1 epb rp ep le b2 a2 b1 a1 hy hx eb e ea hl h0 hb1 hk; lia)) (by (clear e1 j2 j1 i3 i2 i1 k1 epb rp ep le a2 b1 a1 hy hx eb e ea hl h0 hb1 hk; lia))
            (clear j2 j1 i3 i2 i1 k1 epb ep le b2 a2 b1 a1 hy hx eb e ea hl h0 hb1 hk; lia)
          have nxt : ∀ j, j < k → j < a.size → R rk a j ≤ R rk b (nb - 1) := fun j j1 j2 => by
            have := By_f (k2 j j1)
            (clear j2 j1 k1 epb ep le b2 a2 b1 a1 hy hx eb e ea hl h0 hb1 hk; lia)
          apply wpS_ite
          case' h1 =>
            intro kpos
            refine wpS_ite (fun e => ?_) (fun e => ?_)
            · exact wpS_pure ⟨kp4, .inl ⟨_, _, rfl, mA.done (.inl (by simpa using e))⟩⟩
            have e1 : ¬ k = 0 := fun z => e (beq_iff_eq.mpr z)
            have a3 : 1 ≤ k := by (clear e kpos k1 epb rp ep le b2 a2 b1 a1 hy hx eb ea hl h0 hb1 hk; lia)
            have a4 : k ≤ a.size := by (clear a3 e1 e kpos epb rp ep le b2 b1 a1 hy hx eb ea hl h0 hb1 hk; lia)
            have le3 : k + nb + x + 1 + y ≤ a.size + b.size := by (clear a4 a3 e1 e kpos epb rp ep b2 a2 b1 a1 hy hx eb ea hl h0 hb1 hk; lia)
          case' h2 =>
            intro kpos
            have k0 : k = na := by (clear epb rp ep le b2 a2 b1 a1 hy hx eb e ea hl h0 hb1 hk; lia)
            have a3 : 1 ≤ na := a1
            have a4 : na ≤ a.size := a2
            have le3 : na + nb + x + 1 + y ≤ a.size + b.size := by (clear a4 a3 k0 kpos k1 epb rp ep b2 a2 b1 a1 hy hx eb e ea hl h0 hb1 hk; lia)
            rw [k0] at nxt
            replace mA := m
          all_goals
            have mB := mA.pushB (by (clear le3 a4 a3 kpos k1 epb rp ep le b2 a2 a1 hy hx eb e ea hl h0 hb1 hk; lia)) b2 nxt
            rw [epb] at mB
            refine wpS_bind (wpS_elem ep ?_)
            refine wpS_ite (fun e => ?_) (fun e => ?_)
            · exact wpS_pure ⟨kp4, .inl ⟨_, _, rfl, mB.first fun i j i1 i2 j1 j2 => mid i j _ i1 (eq_of_beq e) j2⟩⟩
            have e3 : ¬ nb - 1 = 1 := fun z => e (beq_iff_eq.mpr z)
            obtain ⟨q, eq, mq, rq⟩ := ina _ (Nat.lt_of_lt_of_le (Nat.sub_lt a3 Nat.one_pos) a4)
            refine wpS_bind (wpS_elem eq (wpS_bind (wpS_gallop C (kp4.k.trans hk) mq hb (by (clear rq eq e3 e le3 a4 a3 kpos k1 epb rp ep le a2 b1 a1 hy hx eb ea hl h0 hb1 hk; lia)) (by (clear rq eq e3 e le3 a4 a3 kpos k1 epb rp ep le b2 a2 a1 hy hx eb ea hl h0 hb1 hk; lia)) (fun i j h1 h2 h3 => sb i j (by (clear h3 h2 h1 rq eq e3 e le3 a4 a3 kpos k1 epb rp ep le b2 a2 b1 a1 hy hx eb ea hl h0 hb1 hk; lia)) h2 (by (clear h2 h1 rq eq e3 e le3 a4 a3 kpos k1 epb rp ep le a2 b1 a1 hy hx eb ea hl h0 hb1 hk; lia))) fun k' l1 l2 l3 => ?_)))
            dsimp only
            simp only [Nat.zero_add] at l2 l3
            have mC := mB.chunkB l1 fun i i1 i2 i3 j j1 j2 => by
              have e1 := By_t' (l3 i i1 i2)
              have e2 := sa j _ (by (clear e1 j2 j1 i3 i2 i1 l1 rq eq e3 e le3 a4 a3 kpos k1 epb rp ep le b2 a2 b1 a1 hy hx eb ea hl h0 hb1 hk; lia)) (Nat.le_sub_one_of_lt j1) (by (clear e1 j2 j1 i3 i2 i1 l1 rq eq e3 e le3 a4 a3 kpos epb rp ep le b2 b1 a1 hy hx eb ea hl h0 hb1 hk; lia))
              (clear j2 j1 i3 i2 i1 l1 eq e3 e le3 a4 a3 kpos k1 epb rp ep le b2 a2 b1 a1 hy hx eb ea hl h0 hb1 hk; lia)
            have nx : ∀ j, j < k' → j < b.size → R rk b j ≤ rk q.1 := fun j j1 j2 => by
              have := By_t (l2 j j1)
              (clear j2 j1 l1 rq eq e3 e le3 a4 a3 kpos k1 epb rp ep le b2 a2 b1 a1 hy hx eb ea hl h0 hb1 hk; lia)
            apply wpS_ite
            case' h1 =>
              intro kpos
              refine wpS_ite (fun e => ?_) (fun e => ?_)
              · exact wpS_pure ⟨kp4, .inl ⟨_, _, rfl, mC.first fun i j i1 i2 j1 j2 => mid i j _ i1 (eq_of_beq e) j2⟩⟩
              have e4 : ¬ k' = 1 := fun z => e (beq_iff_eq.mpr z)
              refine wpS_ite (fun e => ?_) (fun e => ?_)
              · exact wpS_pure ⟨kp4, .inl ⟨_, _, rfl, mC.done (.inr (by simpa using e))⟩⟩
              have e5 : ¬ k' = 0 := fun z => e (beq_iff_eq.mpr z)
              have b3 : 2 ≤ k' := by (clear e kpos l1 rq eq e3 le3 a4 a3 k1 epb rp ep le b2 a2 b1 a1 hy hx eb ea hl h0 hb1 hk; lia)
            case' h2 =>
              intro kpos
              have k0 : k' = nb - 1 := by (clear rq eq e3 e le3 a4 a3 k1 epb rp ep le b2 a2 b1 a1 hy hx eb ea hl h0 hb1 hk; lia)
              rw [k0] at nx
              have b3 : 2 ≤ nb - 1 := by (clear k0 kpos l1 rq eq e le3 a4 a3 k1 epb rp ep le b2 a2 a1 hy hx eb ea hl h0 hb1 hk; lia)
              replace mC := mB
            all_goals
              have mD := mC.pushA a3 a4 (fun j j1 j2 => by rw [rq]; exact nx j j1 j2)
              have eqa := Option.some.inj ((getElem?_pos a _ (by (clear b3 kpos l1 rq eq e3 e le3 k1 epb rp ep le b2 a2 b1 a1 hy hx eb ea hl h0 hb1 hk; lia))).symm.trans eq)
              rw [eqa] at mD
              refine wpS_bind (wpS_elem eq ?_)
              refine wpS_ite (fun e => ?_) (fun e => ?_)
              · exact wpS_pure ⟨kp4, .inl ⟨_, _, rfl, mD.done (.inl (eq_of_beq e))⟩⟩
              have e6 : ¬ _ = 0 := fun z => e (beq_iff_eq.mpr z)
              refine wpS_ite (fun _ => ?_) (fun _ => ?_)
              · exact wpS_pure ⟨kp4, .inr ⟨_, _, _, _, _, _, rfl, mD, by (clear e eqa b3 kpos l1 rq eq e3 le3 a4 a3 k1 epb rp ep le b2 a2 b1 a1 hy hx eb ea hl h0 hb1 hk; lia), by (clear e6 e eqa b3 kpos l1 rq eq le3 a4 a3 k1 epb rp ep le b2 a2 a1 hy hx eb ea hl h0 hb1 hk; lia), by (clear e6 e eqa b3 kpos l1 rq eq e3 le3 a4 a3 k1 epb rp ep le b2 b1 a1 hy hx eb ea hl h0 hb1 hk; lia), by (clear e6 e eqa b3 kpos rq eq e3 le3 a4 a3 k1 epb rp ep le a2 b1 a1 hy hx eb ea hl h0 hb1 hk; lia), by (clear e6 e eqa b3 kpos rq eq e3 le3 a4 a3 k1 epb rp ep b2 a2 b1 a1 hy hx eb ea hl h0 hb1 hk; lia)⟩⟩
              · exact wpS_pure ⟨kp4, _, _, _, _, _, _, rfl, mD, by (clear e eqa b3 kpos l1 rq eq e3 le3 a4 a3 k1 epb rp ep le b2 a2 b1 a1 hy hx eb ea hl h0 hb1 hk; lia), by (clear e6 e eqa b3 kpos l1 rq eq le3 a4 a3 k1 epb rp ep le b2 a2 a1 hy hx eb ea hl h0 hb1 hk; lia), by (clear e6 e eqa b3 kpos l1 rq eq e3 le3 a4 a3 k1 epb rp ep le b2 b1 a1 hy hx eb ea hl h0 hb1 hk; lia), by (clear e6 e eqa b3 kpos rq eq e3 le3 a4 a3 k1 epb rp ep le a2 b1 a1 hy hx eb ea hl h0 hb1 hk; lia), by (clear e6 e eqa b3 kpos rq eq e3 le3 a4 a3 k1 epb rp ep b2 a2 b1 hy hx eb ea hl h0 hb1 hk; lia)⟩
end
end Tim
set_option Elab.async false
set_option linter.all false
set_option maxRecDepth 100000
set_option maxHeartbeats 4000000
namespace Tim
open PySem PyProof.Rows
section
variable {prog : Program} {w : World} {A : Around} {E : Value → Shared → Prop} {s : Shared} {κ : SortKind} {a₀ : Array Keyed} {rk : Value → Nat} {pd : Array (Nat × Nat × Nat)}
structure SB (κ : SortKind) (a₀ : Array Keyed) (pd : Array (Nat × Nat × Nat)) (st : SortSt) : Prop where
  perm : (arrOf st).Perm a₀
  kind : kindOf st = κ
  failed : failedOf st = none
  pend : pendingOf st = pd
theorem SB.size {st : SortSt} (h : SB κ a₀ pd st) : (arrOf st).size = a₀.size := h.perm.size_eq
theorem SB.setArr {st : SortSt} (h : SB κ a₀ pd st) {xs : Array Keyed} (hp : xs.Perm (arrOf st)) : SB κ a₀ pd (setArr st xs) := ⟨hp.trans h.perm, h.kind, h.failed, h.pend⟩
theorem SB.mem {st : SortSt} (h : SB κ a₀ pd st) {p : Keyed} (hp : p ∈ (arrOf st).toList) : p ∈ a₀.toList := (Array.perm_iff_toList_perm.mp h.perm).mem_iff.mp hp
theorem wpS_ltAtR {st : SortSt} {i j : Nat} {Q : Option Bool → SortSt → Prop} (C : Cmp prog w A s κ a₀ rk) (hB : SB κ a₀ pd st) (hi : i < a₀.size) (hj : j < a₀.size) (h : Q (some (decide (R rk (arrOf st) i < R rk (arrOf st) j))) st) :
    wpS (model prog w) A E s (ltAt' i j) Q st := by
  rw [ltAt'_eq]
  refine wpS_bind (wpS_get ?_)
  have hi' : i < (arrOf st).size := by rw [hB.size]; exact hi
  have hj' : j < (arrOf st).size := by rw [hB.size]; exact hj
  rw [R_get hi', R_get hj'] at h
  exact wpS_bind (wpS_elem (getElem?_pos (arrOf st) i hi') (wpS_bind (wpS_elem (getElem?_pos (arrOf st) j hj') (wpS_lt C hB.kind (hB.mem (by simp)) (hB.mem (by simp)) h))))
/-- what stands ahead of lo is as it was -/
def Kb (lo : Nat) (st st' : SortSt) : Prop := ∀ i, i < lo → (arrOf st')[i]? = (arrOf st)[i]?
theorem Kb.refl {lo : Nat} {st : SortSt} : Kb lo st st := fun _ _ => rfl
theorem Kb.trans {lo : Nat} {a b c : SortSt} (h : Kb lo a b) (g : Kb lo b c) : Kb lo a c := fun i hi => (g i hi).trans (h i hi)
theorem R_mirror {xs : Array Keyed} {i j : Nat} (hj : j ≤ xs.size) (k : Nat) : R rk (mirror xs i j ((j - i) / 2)) k = if i ≤ k ∧ k < j then R rk xs (i + j - 1 - k) else R rk xs k := by
  have e := getElem?_mirror_all (i := i) hj k
  by_cases h1 : i ≤ k ∧ k < j
  · rw [if_pos h1] at e ⊢; exact R_congr e
  · rw [if_neg h1] at e ⊢; exact R_congr e
theorem kb_mirror {st : SortSt} {lo i j : Nat} (hj : j ≤ (arrOf st).size) (hi : lo ≤ i) : Kb lo st (setArr st (mirror (arrOf st) i j ((j - i) / 2))) := fun k hk => by
  show (mirror (arrOf st) i j ((j - i) / 2))[k]? = _
  rw [getElem?_mirror_all hj, if_neg (by (clear hj; lia))]
theorem R_mirror_eq {xs : Array Keyed} {i j : Nat} (hj : j ≤ xs.size) (heq : ∀ k, i ≤ k → k < j → R rk xs k = R rk xs (j - 1)) (k : Nat) : R rk (mirror xs i j ((j - i) / 2)) k = R rk xs k := by
  rw [R_mirror hj]
  split
  · rw [heq _ (by (clear hj; lia)) (by (clear hj; lia)), heq k (by (clear hj; lia)) (by (clear hj; lia))]
  · rfl
theorem R_bubble {xs : Array Keyed} {src d : Nat} (hs : src < xs.size) (hd : d ≤ src) (k : Nat) :
    R rk (bubble xs src d) k = if k = src - d then R rk xs src else if src - d < k ∧ k ≤ src then R rk xs (k - 1) else R rk xs k := by
  have e := getElem?_bubble hs d hd k
  by_cases h1 : k = src - d
  · rw [if_pos h1] at e ⊢; exact R_congr e
  · rw [if_neg h1] at e ⊢
    by_cases h2 : src - d < k ∧ k ≤ src
    · rw [if_pos h2] at e ⊢; exact R_congr e
    · rw [if_neg h2] at e ⊢; exact R_congr e
def Dwn (rk : Value → Nat) (xs : Array Keyed) (lo hi : Nat) : Prop := ∀ i j, lo ≤ i → i ≤ j → j < hi → R rk xs j ≤ R rk xs i
theorem wpS_countRun {st : SortSt} {lo nrem : Nat} {Q : Option Nat → SortSt → Prop} (C : Cmp prog w A s κ a₀ rk) (hn : lo + nrem ≤ a₀.size) (h1 : 1 ≤ nrem) (hB : SB κ a₀ pd st)
    (h : ∀ m st', SB κ a₀ pd st' → Kb lo st st' → 1 ≤ m → m ≤ nrem → Seg rk (arrOf st') lo (lo + m) → Q (some m) st') : wpS (model prog w) A E s (countRun' lo nrem) Q st := by
  rw [countRun'_eq]
  refine wpS_bind (wpS_mono (wpS_forRange (I := fun x c st' => st' = st ∧ c = (none, x) ∧ Seg rk (arrOf st) lo (lo + x))
    (Q := fun c st' => st' = st ∧ ∃ n, c = (none, n) ∧ 1 ≤ n ∧ n ≤ nrem ∧ Seg rk (arrOf st) lo (lo + n) ∧ (n = nrem ∨ R rk (arrOf st) (lo + n) < R rk (arrOf st) (lo + n - 1))) ?step ?fin ⟨rfl, rfl, fun i j a b c => by rw [show i = j by (clear h1 hn; lia)]; exact Nat.le_refl _⟩) ?post)
  case fin =>
    rintro c st' ⟨rfl, rfl, hs⟩
    rw [show max 1 nrem = nrem by (clear hn; lia)] at hs ⊢
    exact ⟨rfl, nrem, rfl, h1, Nat.le_refl _, hs, .inl rfl⟩
  case step =>
    rintro x c st' x1 xn ⟨rfl, rfl, hs⟩
    dsimp only
    refine wpS_bind (wpS_ltAtR C hB (by (clear x1 h1; lia)) (by (clear x1 h1; lia)) ?_)
    dsimp only
    refine wpS_ite (fun lt => ?_) (fun lt => ?_)
    · exact wpS_pure ⟨rfl, x, rfl, x1, by (clear lt x1 h1 hn; lia), hs, .inr (of_decide_eq_true lt)⟩
    · have lt : R rk (arrOf st') (lo + x - 1) ≤ R rk (arrOf st') (lo + x) := Nat.le_of_not_lt fun z => lt (decide_eq_true z)
      refine wpS_pure ⟨rfl, rfl, fun i j a b c => ?_⟩
      by_cases hj : j < lo + x
      · exact hs i j a b hj
      · have : j = lo + x := by (clear b a lt xn x1 h1 hn; lia)
        subst this
        by_cases hi : i = lo + x
        · rw [hi]; exact Nat.le_refl _
        · exact Nat.le_trans (hs i (lo + x - 1) a (by (clear hj c a lt xn x1 h1 hn; lia)) (by (clear hi hj c b a lt xn h1 hn; lia))) lt
  case post =>
    rintro c st' ⟨rfl, n, rfl, n1, nn, hs, hor⟩
    dsimp only
    have hsz : (arrOf st').size = a₀.size := hB.size
    refine wpS_ite (fun e => ?_) (fun e => ?_)
    · exact wpS_pure (h n _ hB Kb.refl n1 nn hs)
    have e : ¬ n = nrem := fun z => e (beq_iff_eq.mpr z)
    have lt := hor.resolve_left e
    have n2 : n + 1 ≤ nrem := by (clear lt hsz hor n1 h1 hn; lia)
    apply wpS_ite
    case' h1 =>
      intro gt
      refine wpS_bind (wpS_ltAtR C hB (by (clear gt n2 lt e hsz hor nn n1; lia)) (by (clear gt n2 lt e hsz hor n1; lia)) ?_)
      dsimp only
      refine wpS_ite (fun rose => ?_) (fun rose => ?_)
      · exact wpS_pure (h n _ hB Kb.refl n1 nn hs)
      have rose : R rk (arrOf st') (lo + n - 1) ≤ R rk (arrOf st') lo := Nat.le_of_not_lt fun z => rose (decide_eq_true z)
      have all : ∀ k, lo ≤ k → k < lo + n → R rk (arrOf st') k = R rk (arrOf st') (lo + n - 1) := fun k k1 k2 => by
        have a1 := hs lo k (Nat.le_refl _) k1 k2
        have a2 := hs k (lo + n - 1) k1 (by (clear a1 k1 rose gt n2 lt e hsz hor nn n1 h1 hn; lia)) (by (clear a1 k2 k1 rose gt n2 lt e hsz hor nn h1 hn; lia))
        (clear k2 k1 gt n2 lt e hsz hor nn n1 h1 hn; lia)
      rw [reverseSlice'_eq]
      refine wpS_bind (wpS_modify ?_)
      have hB1 : SB κ a₀ pd (setArr st' (mirror (arrOf st') lo (lo + n) ((lo + n - lo) / 2))) := hB.setArr (mirror_perm _ _ _ _)
      have k1 : Kb lo st' (setArr st' (mirror (arrOf st') lo (lo + n) ((lo + n - lo) / 2))) := kb_mirror (by (clear rose gt n2 lt e hor n1 h1; lia)) (Nat.le_refl _)
      have dw : Dwn rk (arrOf (setArr st' (mirror (arrOf st') lo (lo + n) ((lo + n - lo) / 2)))) lo (lo + n + 1) := fun i j a b c => by
        show R rk (mirror _ _ _ _) j ≤ R rk (mirror _ _ _ _) i
        rw [R_mirror_eq (by (clear c b a rose gt n2 lt e hor n1 h1; lia)) all, R_mirror_eq (by (clear c b a rose gt n2 lt e hor n1 h1; lia)) all]
        by_cases hj : j < lo + n
        · rw [all i a (by (clear c a rose gt n2 lt e hsz hor nn n1 h1 hn; lia)), all j (by (clear hj c rose gt n2 lt e hsz hor nn n1 h1 hn; lia)) hj]; exact Nat.le_refl _
        · have : j = lo + n := by (clear b a rose gt n2 lt e hsz hor nn n1 h1 hn; lia)
          subst this
          by_cases hi : i = lo + n
          · rw [hi]; exact Nat.le_refl _
          · rw [all i a (by (clear hj c a rose gt n2 lt e hsz hor nn n1 h1 hn; lia))]; (clear hi hj c b a rose gt n2 lt hsz nn n1 h1 hn; lia)
      generalize setArr st' (mirror (arrOf st') lo (lo + n) ((lo + n - lo) / 2)) = st1 at hB1 k1 dw ⊢
    case' h2 =>
      intro gt
      have hB1 := hB
      have k1 : Kb lo st' st' := Kb.refl
      have dw : Dwn rk (arrOf st') lo (lo + n + 1) := fun i j a b c => by
        have e1 : n = 1 := by (clear c b a n2 lt e hsz hor nn h1 hn; lia)
        subst e1
        by_cases hi : i = j
        · rw [hi]; exact Nat.le_refl _
        · have : i = lo + 1 - 1 := by (clear gt n2 lt e hor nn n1 hsz h1 hn; lia)
          have : j = lo + 1 := by (clear this gt n2 lt e hor nn n1 hsz h1 hn; lia)
          subst_vars
          (clear hi b c a gt n2 lt nn n1 hsz h1 hn; lia)
      revert hB1 k1 dw
      generalize hst : st' = st1
      intro hB1 k1 dw
    all_goals
      refine wpS_bind (wpS_lift (wpAny_rule ⟨rfl, ?_⟩))
      refine wpS_bind (wpS_mono (wpS_forRange (I := fun x c st2 => ∃ neq, c = (none, x, neq) ∧ SB κ a₀ pd st2 ∧ Kb lo st1 st2 ∧ Dwn rk (arrOf st2) lo (lo + x) ∧ neq + 1 ≤ x ∧ (∀ i, lo + x - (neq + 1) ≤ i → i < lo + x → R rk (arrOf st2) i = R rk (arrOf st2) (lo + x - 1)))
        (Q := fun c st2 => ∃ x neq, c = (none, x, neq) ∧ n + 1 ≤ x ∧ x ≤ nrem ∧ SB κ a₀ pd st2 ∧ Kb lo st1 st2 ∧ Dwn rk (arrOf st2) lo (lo + x) ∧ neq + 1 ≤ x ∧ (∀ i, lo + x - (neq + 1) ≤ i → i < lo + x → R rk (arrOf st2) i = R rk (arrOf st2) (lo + x - 1))) ?_ ?_ ⟨0, rfl, hB1, Kb.refl, dw, by (clear gt n2 lt e hsz hor nn n1 h1 hn; lia), fun i a b => by congr 1; (clear gt n2 lt e hsz hor nn n1 h1 hn; lia)⟩) ?_)
      · rintro x c st2 x1 xn ⟨neq, rfl, hB2, k2, d2, q2, e2⟩
        dsimp only
        have sz2 : (arrOf st2).size = a₀.size := hB2.size
        refine wpS_bind (wpS_ltAtR C hB2 (by (clear sz2 q2 x1 gt n2 lt e hsz hor nn n1 h1; lia)) (by (clear sz2 q2 x1 gt n2 lt e hsz hor nn n1 h1; lia)) ?_)
        dsimp only
        refine wpS_ite (fun lt => ?_) (fun lt => ?_)
        · have lt : R rk (arrOf st2) (lo + x) < R rk (arrOf st2) (lo + x - 1) := of_decide_eq_true lt
          have step1 : ∀ xs : Array Keyed, (∀ k, R rk xs k = R rk (arrOf st2) k) → Dwn rk xs lo (lo + (x + 1)) := by
            intro xs hk i j a b c
            rw [hk, hk]
            by_cases hj : j < lo + x
            · exact d2 i j a b hj
            · have : j = lo + x := by (clear b a lt sz2 q2 xn x1 gt n2 e hsz hor nn n1 h1 hn; lia)
              subst this
              by_cases hi : i = lo + x
              · rw [hi]; exact Nat.le_refl _
              · exact Nat.le_trans (Nat.le_of_lt lt) (d2 i (lo + x - 1) a (by (clear hj c a lt sz2 q2 xn x1 gt n2 e hsz hor nn n1 h1 hn; lia)) (by (clear hi hj c b a lt sz2 q2 xn gt n2 e hsz hor nn n1 h1 hn; lia)))
          refine wpS_ite (fun _ => ?_) (fun _ => ?_)
          · rw [reverseSlice'_eq]
            refine wpS_bind (wpS_modify (wpS_pure ⟨0, rfl, hB2.setArr (mirror_perm _ _ _ _), k2.trans (kb_mirror (by (clear lt q2 x1 gt n2 e hsz hor nn n1 h1; lia)) (by (clear lt sz2 xn x1 gt n2 e hsz hor nn n1 h1 hn; lia))), step1 _ (R_mirror_eq (by (clear lt q2 x1 gt n2 e hsz hor nn n1 h1; lia)) e2), by (clear lt sz2 q2 xn x1 gt n2 e hsz hor nn n1 h1 hn; lia), fun i a b => by congr 1; (clear lt sz2 q2 xn x1 gt n2 e hsz hor nn n1 h1 hn; lia)⟩))
          · exact wpS_pure ⟨0, rfl, hB2, k2, step1 _ (fun _ => rfl), by (clear lt sz2 q2 xn x1 gt n2 e hsz hor nn n1 h1 hn; lia), fun i a b => by congr 1; (clear lt sz2 q2 xn x1 gt n2 e hsz hor nn n1 h1 hn; lia)⟩
        · have ge : R rk (arrOf st2) (lo + x - 1) ≤ R rk (arrOf st2) (lo + x) := Nat.le_of_not_lt fun z => lt (decide_eq_true z)
          refine wpS_bind (wpS_ltAtR C hB2 (by (clear ge lt sz2 q2 x1 gt n2 e hsz hor nn n1 h1; lia)) (by (clear ge lt sz2 q2 x1 gt n2 e hsz hor nn n1 h1; lia)) ?_)
          dsimp only
          refine wpS_ite (fun lg => ?_) (fun lg => ?_)
          · exact wpS_pure ⟨x, neq, rfl, x1, by (clear lg ge lt sz2 q2 x1 gt n2 e hsz hor nn n1 h1 hn; lia), hB2, k2, d2, q2, e2⟩
          · have le : R rk (arrOf st2) (lo + x) ≤ R rk (arrOf st2) (lo + x - 1) := Nat.le_of_not_lt fun z => lg (decide_eq_true z)
            have eqx : R rk (arrOf st2) (lo + x) = R rk (arrOf st2) (lo + x - 1) := by (clear lg lt sz2 q2 xn x1 gt n2 e hsz hor nn n1 h1 hn; lia)
            refine wpS_pure ⟨neq + 1, rfl, hB2, k2, fun i j a b c => ?_, by (clear eqx le lg ge lt sz2 xn x1 gt n2 e hsz hor nn n1 h1 hn; lia), fun i a b => ?_⟩
            · by_cases hj : j < lo + x
              · exact d2 i j a b hj
              · have : j = lo + x := by (clear b a eqx le lg ge lt sz2 q2 xn x1 gt n2 e hsz hor nn n1 h1 hn; lia)
                subst this
                by_cases hi : i = lo + x
                · rw [hi]; exact Nat.le_refl _
                · rw [eqx]; exact d2 i (lo + x - 1) a (by (clear hj c a eqx le lg ge lt sz2 q2 xn x1 gt n2 e hsz hor nn n1 h1 hn; lia)) (by (clear hi hj c b a eqx le lg ge lt sz2 q2 xn gt n2 e hsz hor nn n1 h1 hn; lia))
            · rw [show lo + (x + 1) - 1 = lo + x by (clear b a eqx le lg ge lt sz2 q2 xn x1 gt n2 e hsz hor nn n1 h1 hn; lia)]
              by_cases hi : i = lo + x
              · rw [hi]
              · rw [eqx]; exact e2 i (by (clear hi b eqx le lg ge lt sz2 q2 xn x1 gt n2 e hsz hor nn n1 h1 hn; lia)) (by (clear a eqx le lg ge lt sz2 q2 xn x1 gt n2 e hsz hor nn n1 h1 hn; lia))
      · rintro c st2 ⟨neq, rfl, hB2, k2, d2, q2, e2⟩
        rw [show max (n + 1) nrem = nrem by (clear q2 gt n2 lt hsz hor n1 h1 hn; lia)] at d2 q2 e2 ⊢
        exact ⟨nrem, neq, rfl, n2, Nat.le_refl _, hB2, k2, d2, q2, e2⟩
      · rintro c st2 ⟨x, neq, rfl, x1, xn, hB2, k2, d2, q2, e2⟩
        dsimp only
        have sz2 : (arrOf st2).size = a₀.size := hB2.size
        apply wpS_ite
        case' h1 =>
          intro _
          rw [reverseSlice'_eq]
          refine wpS_bind (wpS_modify ?_)
          have hB3 : SB κ a₀ pd (setArr st2 (mirror (arrOf st2) (lo + x - (neq + 1)) (lo + x) ((lo + x - (lo + x - (neq + 1))) / 2))) := hB2.setArr (mirror_perm _ _ _ _)
          have k3 := k2.trans (kb_mirror (st := st2) (lo := lo) (i := lo + x - (neq + 1)) (j := lo + x) (by (clear q2 x1 gt n2 lt e hsz hor nn n1 h1; lia)) (by (clear sz2 xn x1 gt n2 lt e hsz hor nn n1 h1 hn; lia)))
          have d3 : Dwn rk (arrOf (setArr st2 (mirror (arrOf st2) (lo + x - (neq + 1)) (lo + x) ((lo + x - (lo + x - (neq + 1))) / 2)))) lo (lo + x) := fun i j a b c => by
            show R rk (mirror _ _ _ _) j ≤ R rk (mirror _ _ _ _) i
            rw [R_mirror_eq (by (clear c b a q2 x1 gt n2 lt e hsz hor nn n1 h1; lia)) e2, R_mirror_eq (by (clear c b a q2 x1 gt n2 lt e hsz hor nn n1 h1; lia)) e2]
            exact d2 i j a b c
          generalize setArr st2 (mirror (arrOf st2) (lo + x - (neq + 1)) (lo + x) ((lo + x - (lo + x - (neq + 1))) / 2)) = st3 at hB3 k3 d3 ⊢
        case' h2 =>
          intro _
          have hB3 := hB2
          have k3 := k2
          have d3 := d2
          revert hB3 k3 d3
          generalize st2 = st3
          intro hB3 k3 d3
        all_goals
          have sz3 : (arrOf st3).size = a₀.size := hB3.size
          rw [reverseSlice'_eq]
          refine wpS_bind (wpS_modify ?_)
          have hB4 : SB κ a₀ pd (setArr st3 (mirror (arrOf st3) lo (lo + x) ((lo + x - lo) / 2))) := hB3.setArr (mirror_perm _ _ _ _)
          have k4 := k3.trans (kb_mirror (st := st3) (lo := lo) (i := lo) (j := lo + x) (by (clear sz2 q2 x1 gt n2 lt e hsz hor nn n1 h1; lia)) (by (clear sz3 sz2 q2 xn x1 gt n2 lt e hsz hor nn n1 h1 hn; lia)))
          have s4 : Seg rk (arrOf (setArr st3 (mirror (arrOf st3) lo (lo + x) ((lo + x - lo) / 2)))) lo (lo + x) := fun i j a b c => by
            show R rk (mirror _ _ _ _) i ≤ R rk (mirror _ _ _ _) j
            rw [R_mirror (by (clear c b a sz2 q2 x1 gt n2 lt e hsz hor nn n1 h1; lia)), R_mirror (by (clear c b a sz2 q2 x1 gt n2 lt e hsz hor nn n1 h1; lia)), if_pos (by (clear sz3 sz2 q2 xn x1 gt n2 lt e hsz hor nn n1 h1 hn; lia)), if_pos (by (clear sz3 sz2 q2 xn x1 gt n2 lt e hsz hor nn n1 h1 hn; lia))]
            exact d3 _ _ (by (clear b a sz3 sz2 q2 xn x1 gt n2 lt e hsz hor nn n1 h1 hn; lia)) (by (clear c a sz3 sz2 q2 xn x1 gt n2 lt e hsz hor nn n1 h1 hn; lia)) (by (clear c b sz3 sz2 q2 xn gt n2 lt e hsz hor nn n1 h1 hn; lia))
          generalize setArr st3 (mirror (arrOf st3) lo (lo + x) ((lo + x - lo) / 2)) = st4 at hB4 k4 s4 ⊢
          refine wpS_bind (wpS_mono (wpS_forRange (I := fun y c st5 => st5 = st4 ∧ c = (none, y) ∧ Seg rk (arrOf st4) lo (lo + y))
            (Q := fun c st5 => st5 = st4 ∧ ∃ y, c = (none, y) ∧ x ≤ y ∧ y ≤ nrem ∧ Seg rk (arrOf st4) lo (lo + y)) ?_ ?_ ⟨rfl, rfl, s4⟩) ?_)
          · rintro y c st5 y1 yn ⟨rfl, rfl, hs5⟩
            dsimp only
            refine wpS_bind (wpS_ltAtR C hB4 (by (clear y1 sz3 sz2 q2 xn x1 gt n2 lt e hsz hor nn n1 h1; lia)) (by (clear y1 sz3 sz2 q2 xn x1 gt n2 lt e hsz hor nn n1 h1; lia)) ?_)
            dsimp only
            refine wpS_ite (fun lt => ?_) (fun lt => ?_)
            · exact wpS_pure ⟨rfl, y, rfl, y1, by (clear lt y1 sz3 sz2 q2 xn x1 gt n2 e hsz hor nn n1 h1 hn; lia), hs5⟩
            · have lt : R rk (arrOf st5) (lo + y - 1) ≤ R rk (arrOf st5) (lo + y) := Nat.le_of_not_lt fun z => lt (decide_eq_true z)
              refine wpS_pure ⟨rfl, rfl, fun i j a b c => ?_⟩
              by_cases hj : j < lo + y
              · exact hs5 i j a b hj
              · have : j = lo + y := by (clear b a lt yn y1 sz3 sz2 q2 xn x1 gt n2 e hsz hor nn n1 h1 hn; lia)
                subst this
                by_cases hi : i = lo + y
                · rw [hi]; exact Nat.le_refl _
                · exact Nat.le_trans (hs5 i (lo + y - 1) a (by (clear hj c a lt yn y1 sz3 sz2 q2 xn x1 gt n2 e hsz hor nn n1 h1 hn; lia)) (by (clear hi hj c b a lt yn sz3 sz2 q2 xn gt n2 e hsz hor nn n1 h1 hn; lia))) lt
          · rintro c st5 ⟨rfl, rfl, hs5⟩
            rw [show max x nrem = nrem by (clear sz3 sz2 q2 x1 gt n2 lt e hsz hor nn n1 h1 hn; lia)] at hs5 ⊢
            exact ⟨rfl, nrem, rfl, xn, Nat.le_refl _, hs5⟩
          · rintro c st5 ⟨rfl, y, rfl, y1, yn, hs5⟩
            exact wpS_pure (h y _ hB4 (by first | exact k1.trans k4 | (subst hst; exact k4)) (by (clear yn sz3 sz2 q2 xn gt n2 lt e hsz hor nn n1 h1 hn; lia)) yn hs5)
theorem wpS_binarySort {st : SortSt} {lo n ok : Nat} {Q : Bool → SortSt → Prop} (C : Cmp prog w A s κ a₀ rk) (hn : lo + n ≤ a₀.size) (hok : ok ≤ n) (hB : SB κ a₀ pd st) (hs : Seg rk (arrOf st) lo (lo + ok))
    (h : ∀ st', SB κ a₀ pd st' → Kb lo st st' → Seg rk (arrOf st') lo (lo + n) → Q true st') : wpS (model prog w) A E s (binarySort' lo n ok) Q st := by
  rw [binarySort'_eq]
  refine wpS_bind (wpS_mono (wpS_forRange (I := fun k c st' => c = (none, ()) ∧ SB κ a₀ pd st' ∧ Kb lo st st' ∧ Seg rk (arrOf st') lo (lo + min k n))
    (Q := fun c st' => c = (none, ()) ∧ SB κ a₀ pd st' ∧ Kb lo st st' ∧ Seg rk (arrOf st') lo (lo + n)) ?step ?fin ?init) ?post)
  case post =>
    rintro c st' ⟨rfl, hB', k', hs'⟩
    exact wpS_pure (h st' hB' k' hs')
  case init =>
    refine ⟨rfl, hB, Kb.refl, fun i j a b c => ?_⟩
    by_cases h1 : ok = 0
    · rw [show i = j by (clear hok hn; lia)]; exact Nat.le_refl _
    · exact hs i j a b (by (clear b a hok hn; lia))
  case fin =>
    rintro c st' ⟨hc, hB', k', hs'⟩
    refine ⟨hc, hB', k', ?_⟩
    rwa [show min (max (max ok 1) n) n = n by (clear hc hok hn; lia)] at hs'
  case step =>
    rintro k c st' hak hkn ⟨rfl, hB', k', hs'⟩
    rw [show min k n = k by (clear hak hok hn; lia)] at hs'
    have sz : (arrOf st').size = a₀.size := hB'.size
    refine wpS_bind (wpS_mono (wpS_forRange (I := fun x c st'' => st'' = st' ∧ ∃ l r, c = (none, l, r) ∧ l ≤ r ∧ r ≤ k ∧ r - l ≤ k - x ∧
        (∀ i, i < l → R rk (arrOf st') (lo + i) ≤ R rk (arrOf st') (lo + k)) ∧ (∀ i, r ≤ i → i < k → R rk (arrOf st') (lo + k) < R rk (arrOf st') (lo + i)))
      (Q := fun c st'' => st'' = st' ∧ ∃ l r, c = (none, l, r) ∧ l ≤ k ∧
        (∀ i, i < l → R rk (arrOf st') (lo + i) ≤ R rk (arrOf st') (lo + k)) ∧ (∀ i, l ≤ i → i < k → R rk (arrOf st') (lo + k) < R rk (arrOf st') (lo + i))) ?istep ?ifin ?iinit) ?ipost)
    case iinit => exact ⟨rfl, 0, k, rfl, by (clear sz hkn hak hok hn; lia), by (clear sz hkn hak hok hn; lia), by (clear sz hkn hak hok hn; lia), fun i hi => by (clear sz hkn hak hok hn; lia), fun i h1 h2 => by (clear sz hkn hak hok hn; lia)⟩
    case ifin =>
      rintro c st'' ⟨rfl, l, r, rfl, hlr, hrk, hm, hlo, hhi⟩
      have : l = r := by (clear hrk sz hkn hak hok hn; lia)
      subst this
      exact ⟨rfl, l, l, rfl, hrk, hlo, hhi⟩
    case istep =>
      rintro x c st'' _ hxk ⟨rfl, l, r, rfl, hlr, hrk, hm, hlo, hhi⟩
      dsimp only
      refine wpS_ite (fun hge => ?_) (fun hge => ?_)
      · have : l = r := by (clear hm hrk sz hxk hkn hak hok hn; lia)
        subst this
        exact wpS_pure ⟨rfl, l, l, rfl, hrk, hlo, hhi⟩
      · refine wpS_bind (wpS_ltAtR C hB' (by (clear hge hm hrk hlr sz hxk hak hok; lia)) (by (clear hge hm sz hxk hak hok; lia)) ?_)
        dsimp only
        refine wpS_ite (fun lt => ?_) (fun lt => ?_)
        · have lt := of_decide_eq_true lt
          refine wpS_pure ⟨rfl, l, (l + r) / 2, rfl, by (clear lt hge hm hrk sz hxk hkn hak hok hn; lia), by (clear lt hge hm sz hxk hkn hak hok hn; lia), by (clear lt hge hrk hlr sz hxk hkn hak hok hn; lia), hlo, fun i h1 h2 => ?_⟩
          exact Nat.lt_of_lt_of_le lt (hs' _ _ (by (clear h2 h1 lt hge hm hrk hlr sz hxk hkn hak hok hn; lia)) (by (clear h2 lt hge hm hrk hlr sz hxk hkn hak hok hn; lia)) (by (clear h1 lt hge hm hrk hlr sz hxk hkn hak hok hn; lia)))
        · have lt : R rk (arrOf st'') (lo + (l + r) / 2) ≤ R rk (arrOf st'') (lo + k) := Nat.le_of_not_lt fun z => lt (decide_eq_true z)
          refine wpS_pure ⟨rfl, (l + r) / 2 + 1, r, rfl, by (clear lt hm hrk hlr sz hxk hkn hak hok hn; lia), by (clear lt hge hm hlr sz hxk hkn hak hok hn; lia), by (clear lt hge hrk hlr sz hxk hkn hak hok hn; lia), fun i h1 => ?_, hhi⟩
          exact Nat.le_trans (hs' (lo + i) (lo + (l + r) / 2) (by (clear h1 lt hge hm hrk hlr sz hxk hkn hak hok hn; lia)) (by (clear lt hge hm hrk hlr sz hxk hkn hak hok hn; lia)) (by (clear h1 lt hm hlr sz hxk hkn hak hok hn; lia))) lt
    case ipost =>
      rintro c st'' ⟨rfl, l, r, rfl, hlk, hlo, hhi⟩
      show wpS _ _ _ _ (do moveDown' (lo + k) (lo + l); pure (ForInStep.yield (none, ()))) _ _
      rw [moveDown'_eq]
      refine wpS_bind (wpS_modify (wpS_pure ⟨rfl, hB'.setArr (bubble_perm _ _ _), k'.trans ?_, ?_⟩))
      · intro i hi
        show (bubble (arrOf st'') (lo + k) (lo + k - (lo + l)))[i]? = _
        rw [getElem?_bubble (by (clear hi hlk hak hok; lia)) _ (by (clear hi hlk sz hkn hak hok hn; lia)), if_neg (by (clear hlk sz hkn hak hok hn; lia)), if_neg (by (clear hlk sz hkn hak hok hn; lia))]
      rw [show min (k + 1) n = k + 1 by (clear hlk sz hak hok hn; lia)]
      intro i j a b c
      show R rk (bubble (arrOf st'') (lo + k) (lo + k - (lo + l))) i ≤ R rk (bubble (arrOf st'') (lo + k) (lo + k - (lo + l))) j
      rw [R_bubble (by (clear c b a hlk hak hok; lia)) (by (clear c b a hlk sz hkn hak hok hn; lia)), R_bubble (by (clear c b a hlk hak hok; lia)) (by (clear c b a hlk sz hkn hak hok hn; lia)), show lo + k - (lo + k - (lo + l)) = lo + l by (clear c b a sz hkn hak hok hn; lia)]
      have L1 : ∀ i, lo ≤ i → i < lo + l → R rk (arrOf st'') i ≤ R rk (arrOf st'') (lo + k) := fun i i1 i2 => by
        have := hlo (i - lo) (by (clear c b a hlk sz hkn hak hok hn; lia)); rwa [show lo + (i - lo) = i by (clear this i2 c b a hlk sz hkn hak hok hn; lia)] at this
      have L2 : ∀ i, lo + l ≤ i → i < lo + k → R rk (arrOf st'') (lo + k) < R rk (arrOf st'') i := fun i i1 i2 => by
        have := hhi (i - lo) (by (clear i2 c b a hlk sz hkn hak hok hn; lia)) (by (clear i1 c b a hlk sz hkn hok hn; lia)); rwa [show lo + (i - lo) = i by (clear this i2 c b a hlk sz hkn hak hok hn; lia)] at this
      repeat' split
      all_goals first
        | (exfalso; (clear a hlk sz hkn hak hok hn; lia))
        | exact Nat.le_refl _
        | exact L1 _ (by (clear c b hlk sz hkn hak hok hn; lia)) (by (clear c a hlk sz hkn hak hok hn; lia))
        | exact Nat.le_of_lt (L2 _ (by (clear c b a hlk sz hkn hak hok hn; lia)) (by (clear c b a hlk sz hkn hak hok hn; lia)))
        | exact hs' _ _ (by (clear c b hlk sz hkn hak hok hn; lia)) (by (clear c a hlk sz hkn hak hok hn; lia)) (by (clear b a sz hkn hak hok hn; lia))
end
end Tim
set_option Elab.async false
set_option linter.all false
set_option maxRecDepth 100000
set_option maxHeartbeats 4000000
namespace Tim
open PySem PyProof.Rows
theorem mergeAt'_eq (i : Nat) : mergeAt' i = (do
  let s ← get
  let (some (sa, na, power), some (sb, nb, _)) := ((pendingOf s)[i]?, (pendingOf s)[i + 1]?) | unsupported "internal:list.sort.pending"
  set (SortSt.mk' (kindOf s) (arrOf s) (((pendingOf s).setIfInBounds i (sa, na + nb, power)).eraseIdxIfInBounds (i + 1)) (gallopOf s) (failedOf s))
  let some k ← gallop' false (← elem' (arrOf s) sb) (arrOf s) sa na 0 | return false
  let (sa, na) := (sa + k, na - k)
  if na == 0 then return true
  let some nb ← gallop' true (← elem' (arrOf s) (sa + na - 1)) (arrOf s) sb nb (nb - 1) | return false
  if nb == 0 then return true
  let x := (arrOf s).extract sa sb
  let y := (arrOf s).extract sb (sb + nb)
  let merged ← if na ≤ nb then mergeLo' x y else mergeHi' x y
  modify fun s => setArr s (merged.toList.zipIdx.foldl (fun a (p, j) => a.setIfInBounds (sa + j) p) (arrOf s))
  return (failedOf (← get)).isNone) := rfl
section
variable {prog : Program} {w : World} {A : Around} {E : Value → Shared → Prop} {s : Shared} {κ : SortKind} {a₀ : Array Keyed} {rk : Value → Nat} {pd : Array (Nat × Nat × Nat)}
theorem put_get (b : Nat) (m : List Keyed) : ∀ (n : Nat) (xs : Array Keyed) (j : Nat), b + n + m.length ≤ xs.size → ((m.zipIdx n).foldl (fun a x => a.setIfInBounds (b + x.2) x.1) xs)[j]? = if b + n ≤ j ∧ j < b + n + m.length then m[j - (b + n)]? else xs[j]? := by
  induction m with
  | nil => intro n xs j h; rw [if_neg (by simp)]; rfl
  | cons p m ih =>
    intro n xs j h
    rw [List.length_cons] at h
    rw [List.zipIdx_cons, List.foldl_cons, ih (n + 1) _ j (by rw [Array.size_setIfInBounds]; lia)]
    by_cases e : j = b + n
    · subst e
      rw [if_neg (by (clear h; lia)), if_pos (by rw [List.length_cons]; (clear h; lia)), Nat.sub_self]
      rw [Array.getElem?_setIfInBounds_self_of_lt (by lia)]
      rfl
    · by_cases c : b + (n + 1) ≤ j ∧ j < b + (n + 1) + m.length
      · rw [if_pos c, if_pos (by rw [List.length_cons]; (clear e h; lia)), show j - (b + n) = (j - (b + (n + 1))) + 1 by (clear e h; lia), List.getElem?_cons_succ]
      · rw [if_neg c, if_neg (by rw [List.length_cons]; (clear h; lia)), Array.getElem?_setIfInBounds_ne (Ne.symm e)]
theorem put_perm {b n : Nat} {m : List Keyed} {xs : Array Keyed} (hl : m.length = n) (hb : b + n ≤ xs.size) (hp : m.Perm ((xs.toList.drop b).take n)) : ((m.zipIdx).foldl (fun a x => a.setIfInBounds (b + x.2) x.1) xs).Perm xs := by
  have e : ((m.zipIdx).foldl (fun a x => a.setIfInBounds (b + x.2) x.1) xs).toList = xs.toList.take b ++ (m ++ xs.toList.drop (b + n)) := by
    have hx : xs.toList.length = xs.size := Array.length_toList
    apply List.ext_getElem?
    intro j
    rw [Array.getElem?_toList, put_get b m 0 xs j (by (clear hx; lia))]
    by_cases j1 : j < b
    · rw [if_neg (by (clear hx hb hl; lia)), List.getElem?_append_left (by rw [List.length_take, hx]; (clear hx hl; lia)), List.getElem?_take_of_lt j1, Array.getElem?_toList]
    · rw [List.getElem?_append_right (by rw [List.length_take, hx]; (clear hx hb hl; lia)), List.length_take, hx, Nat.min_eq_left (by (clear j1 hx hl; lia))]
      by_cases j2 : j < b + n
      · rw [if_pos (by (clear hx hb; lia)), List.getElem?_append_left (by (clear hx hb; lia))]; rfl
      · rw [if_neg (by (clear j1 hx hb; lia)), List.getElem?_append_right (by (clear j1 hx hb; lia)), List.getElem?_drop, Array.getElem?_toList]
        congr 1
        (clear j1 hx hb; lia)
  refine Array.perm_iff_toList_perm.mpr ?_
  rw [e]
  have sp : xs.toList = xs.toList.take b ++ ((xs.toList.drop b).take n ++ xs.toList.drop (b + n)) := by
    rw [← drop_split, List.take_append_drop]
  refine List.Perm.trans ?_ (List.Perm.of_eq sp.symm)
  exact List.Perm.append_left _ (List.Perm.append_right _ hp)
theorem R_ext {xs : Array Keyed} {lo hi i : Nat} (h : lo + i < hi) (hh : hi ≤ xs.size) : R rk (xs.extract lo hi) i = R rk xs (lo + i) := by
  apply R_congr
  rw [Array.getElem?_extract]
  rw [if_pos (by lia)]
theorem wpS_set {σ : Type} {M : Model} {A : Around} {E : Value → Shared → Prop} {s : Shared} {x : σ} {Q : PUnit → σ → Prop} {st : σ} (h : Q ⟨⟩ x) : wpS M A E s (set x : StateT σ Sem PUnit) Q st := by
  unfold wpS; rw [StateT.run_set]; exact wpAny_pure ⟨rfl, h⟩
theorem wpS_mergeAt {st : SortSt} {i sa na pw sb nb pw2 : Nat} {Q : Bool → SortSt → Prop} (C : Cmp prog w A s κ a₀ rk) (hB : SB κ a₀ pd st) (h1 : pd[i]? = some (sa, na, pw)) (h2 : pd[i + 1]? = some (sb, nb, pw2)) (hsb : sb = sa + na) (na1 : 1 ≤ na) (nb1 : 1 ≤ nb) (hz : sb + nb ≤ a₀.size)
    (s1 : Seg rk (arrOf st) sa (sa + na)) (s2 : Seg rk (arrOf st) sb (sb + nb))
    (h : ∀ st', SB κ a₀ ((pd.setIfInBounds i (sa, na + nb, pw)).eraseIdxIfInBounds (i + 1)) st' → (∀ j, j < sa ∨ sb + nb ≤ j → (arrOf st')[j]? = (arrOf st)[j]?) → Seg rk (arrOf st') sa (sb + nb) → Q true st') :
    wpS (model prog w) A E s (mergeAt' i) Q st := by
  rw [mergeAt'_eq]
  refine wpS_bind (wpS_get ?_)
  rw [hB.pend, h1, h2]
  dsimp only
  have sz : (arrOf st).size = a₀.size := hB.size
  have harr : ∀ p ∈ (arrOf st).toList, p ∈ a₀.toList := fun p hp => hB.mem hp
  have ina : ∀ i, i < a₀.size → ∃ p, (arrOf st)[i]? = some p ∧ p ∈ a₀.toList ∧ R rk (arrOf st) i = rk p.1 := fun i hi => ⟨(arrOf st)[i]'(by (clear hz nb1 na1 hsb h2 h1; lia)), getElem?_pos (arrOf st) i (by (clear hz nb1 na1 hsb h2 h1; lia)), hB.mem (by simp), R_get (by (clear hz nb1 na1 hsb h2 h1; lia))⟩
  refine wpS_bind (wpS_set ?_)
  have hB1 : SB κ a₀ ((pd.setIfInBounds i (sa, na + nb, pw)).eraseIdxIfInBounds (i + 1)) (SortSt.mk' (kindOf st) (arrOf st) ((pd.setIfInBounds i (sa, na + nb, pw)).eraseIdxIfInBounds (i + 1)) (gallopOf st) (failedOf st)) := ⟨hB.perm, hB.kind, hB.failed, rfl⟩
  have hA1 : arrOf (SortSt.mk' (kindOf st) (arrOf st) ((pd.setIfInBounds i (sa, na + nb, pw)).eraseIdxIfInBounds (i + 1)) (gallopOf st) (failedOf st)) = arrOf st := rfl
  generalize (pd.setIfInBounds i (sa, na + nb, pw)).eraseIdxIfInBounds (i + 1) = pd1 at hB1 hA1 h ⊢
  generalize SortSt.mk' (kindOf st) (arrOf st) pd1 (gallopOf st) (failedOf st) = st1 at hB1 hA1 ⊢
  obtain ⟨p, ep, mp, rp⟩ := ina sb (by (clear hA1 sz na1 hsb h2 h1; lia))
  refine wpS_bind (wpS_elem ep (wpS_bind (wpS_gallop C hB1.kind mp harr (by (clear rp ep hA1 nb1 na1 h2 h1; lia)) (by (clear rp ep hA1 sz hz nb1 hsb h2 h1; lia)) s1 fun k k1 k2 k3 => ?_)))
  dsimp only
  refine wpS_ite (fun e => ?_) (fun e => ?_)
  · have e : na - k = 0 := eq_of_beq e
    refine wpS_pure (h st1 hB1 (fun j _ => by rw [hA1]) fun i j a b c => ?_)
    rw [hA1]
    by_cases hj : j < sb
    · exact s1 i j a b (by (clear c b a e k1 rp ep hA1 sz hz nb1 na1 h2 h1; lia))
    · by_cases hi : i < sb
      · have e1 := By_f (k2 (i - sa) (by (clear hj c b a k1 rp ep hA1 sz hz nb1 h2 h1; lia)))
        rw [show sa + (i - sa) = i by (clear e1 hi hj c b e k1 rp ep hA1 sz hz nb1 na1 hsb h2 h1; lia)] at e1
        have e2 := s2 sb j (Nat.le_refl _) (by (clear e1 hi c b a e k1 rp ep hA1 sz hz nb1 na1 hsb h2 h1; lia)) c
        (clear hi hj c b a e k1 ep hA1 sz hz nb1 na1 hsb h2 h1; lia)
      · exact s2 i j (by (clear hj c b a e k1 rp ep hA1 sz hz nb1 na1 hsb h2 h1; lia)) b c
  have ek : k < na := by have : ¬ na - k = 0 := fun z => e (beq_iff_eq.mpr z); (clear e k1 rp ep hA1 sz hz nb1 na1 hsb h2 h1; lia)
  obtain ⟨q, eq, mq, rq⟩ := ina (sa + k + (na - k) - 1) (by (clear ek e rp ep hA1 sz nb1 h2 h1; lia))
  refine wpS_bind (wpS_elem eq (wpS_bind (wpS_gallop C hB1.kind mq harr (by (clear rq eq ek e k1 rp ep hA1 nb1 na1 hsb h2 h1; lia)) (by (clear rq eq ek e k1 rp ep hA1 sz hz na1 hsb h2 h1; lia)) s2 fun n2 l1 l2 l3 => ?_)))
  dsimp only
  have elast : sa + k + (na - k) - 1 = sb - 1 := by (clear l1 rq eq ek e rp ep hA1 sz hz nb1 na1 h2 h1; lia)
  rw [elast] at rq
  refine wpS_ite (fun e => ?_) (fun e => ?_)
  · have e : n2 = 0 := eq_of_beq e
    refine wpS_pure (h st1 hB1 (fun j _ => by rw [hA1]) fun i j a b c => ?_)
    rw [hA1]
    by_cases hj : j < sb
    · exact s1 i j a b (by (clear c b a e elast l1 rq eq ek k1 rp ep hA1 sz hz nb1 na1 h2 h1; lia))
    · by_cases hi : i < sb
      · have e1 := By_t' (l3 (j - sb) (by (clear hi hj c b a elast l1 rq eq ek k1 rp ep hA1 sz hz nb1 na1 hsb h2 h1; lia)) (by (clear hi hj b a e elast l1 rq eq ek k1 rp ep hA1 sz hz na1 hsb h2 h1; lia)))
        rw [show sb + (j - sb) = j by (clear e1 hi c b a e elast l1 rq eq ek k1 rp ep hA1 sz hz nb1 na1 hsb h2 h1; lia)] at e1
        have e2 := s1 i (sb - 1) a (by (clear e1 hj c b a e elast l1 rq eq ek k1 rp ep hA1 sz hz nb1 na1 hsb h2 h1; lia)) (by (clear e1 hi hj c b a e elast l1 rq eq ek k1 rp ep hA1 sz hz nb1 h2 h1; lia))
        (clear hi hj c b a e elast l1 eq ek k1 rp ep hA1 sz hz nb1 na1 hsb h2 h1; lia)
      · exact s2 i j (by (clear hj c b a e elast l1 rq eq ek k1 rp ep hA1 sz hz nb1 na1 hsb h2 h1; lia)) b c
  have e2 : ¬ n2 = 0 := fun z => e (beq_iff_eq.mpr z)
  have xsz : ((arrOf st).extract (sa + k) sb).size = sb - (sa + k) := by rw [Array.size_extract, Nat.min_eq_left (by (clear e2 e elast l1 rq eq ek k1 rp ep hA1 nb1 na1 hsb h2 h1; lia))]
  have ysz : ((arrOf st).extract sb (sb + n2)).size = n2 := by rw [Array.size_extract, Nat.min_eq_left (by (clear xsz e2 e elast rq eq ek k1 rp ep hA1 nb1 na1 hsb h2 h1; lia))]; (clear xsz e2 e elast l1 rq eq ek k1 rp ep hA1 sz hz nb1 na1 hsb h2 h1; lia)
  have xin : ∀ p ∈ ((arrOf st).extract (sa + k) sb).toList, p ∈ a₀.toList := fun p hp => harr p (by rw [ext_list] at hp; exact List.mem_of_mem_drop (List.mem_of_mem_take hp))
  have yin : ∀ p ∈ ((arrOf st).extract sb (sb + n2)).toList, p ∈ a₀.toList := fun p hp => harr p (by rw [ext_list] at hp; exact List.mem_of_mem_drop (List.mem_of_mem_take hp))
  have sx : Seg rk ((arrOf st).extract (sa + k) sb) 0 ((arrOf st).extract (sa + k) sb).size := fun i j a b c => by
    rw [xsz] at c
    rw [R_ext (by (clear a ysz xsz e2 e elast l1 rq eq ek k1 rp ep hA1 sz hz nb1 na1 hsb h2 h1; lia)) (by (clear c b a ysz xsz e2 e elast l1 rq eq ek k1 rp ep hA1 nb1 na1 hsb h2 h1; lia)), R_ext (by (clear b a ysz xsz e2 e elast l1 rq eq ek k1 rp ep hA1 sz hz nb1 na1 hsb h2 h1; lia)) (by (clear c b a ysz xsz e2 e elast l1 rq eq ek k1 rp ep hA1 nb1 na1 hsb h2 h1; lia))]
    exact s1 _ _ (by (clear c b a ysz xsz e2 e elast l1 rq eq ek k1 rp ep hA1 sz hz nb1 na1 hsb h2 h1; lia)) (by (clear c a ysz xsz e2 e elast l1 rq eq ek k1 rp ep hA1 sz hz nb1 na1 hsb h2 h1; lia)) (by (clear b a ysz xsz e2 e elast l1 rq eq ek k1 rp ep hA1 sz hz nb1 na1 h2 h1; lia))
  have sy : Seg rk ((arrOf st).extract sb (sb + n2)) 0 ((arrOf st).extract sb (sb + n2)).size := fun i j a b c => by
    rw [ysz] at c
    rw [R_ext (by (clear a ysz xsz e2 e elast l1 rq eq ek k1 rp ep hA1 sz hz nb1 na1 hsb h2 h1; lia)) (by (clear c b a ysz xsz e2 e elast rq eq ek k1 rp ep hA1 nb1 na1 hsb h2 h1; lia)), R_ext (by (clear b a ysz xsz e2 e elast l1 rq eq ek k1 rp ep hA1 sz hz nb1 na1 hsb h2 h1; lia)) (by (clear c b a ysz xsz e2 e elast rq eq ek k1 rp ep hA1 nb1 na1 hsb h2 h1; lia))]
    exact s2 _ _ (by (clear c b a ysz xsz e2 e elast l1 rq eq ek k1 rp ep hA1 sz hz nb1 na1 hsb h2 h1; lia)) (by (clear c a ysz xsz e2 e elast l1 rq eq ek k1 rp ep hA1 sz hz nb1 na1 hsb h2 h1; lia)) (by (clear b a ysz xsz e2 e elast rq eq ek k1 rp ep hA1 sz hz nb1 na1 hsb h2 h1; lia))
  have h0 : R rk ((arrOf st).extract sb (sb + n2)) 0 ≤ R rk ((arrOf st).extract (sa + k) sb) 0 := by
    rw [R_ext (by (clear ysz xsz e elast l1 rq eq ek k1 rp ep hA1 sz hz nb1 na1 hsb h2 h1; lia)) (by (clear ysz xsz e2 e elast rq eq ek k1 rp ep hA1 nb1 na1 hsb h2 h1; lia)), R_ext (by (clear ysz xsz e2 e elast l1 rq eq k1 rp ep hA1 sz hz nb1 na1 h2 h1; lia)) (by (clear ysz xsz e2 e elast l1 rq eq ek k1 rp ep hA1 nb1 na1 hsb h2 h1; lia)), Nat.add_zero, Nat.add_zero, rp]
    have := By_f' (k3 k (Nat.le_refl _) ek)
    (clear ysz xsz e2 e elast l1 rq eq ek k1 rp ep hA1 sz hz nb1 na1 hsb h2 h1; lia)
  have hl : R rk ((arrOf st).extract sb (sb + n2)) (((arrOf st).extract sb (sb + n2)).size - 1) ≤ R rk ((arrOf st).extract (sa + k) sb) (((arrOf st).extract (sa + k) sb).size - 1) := by
    rw [xsz, ysz, R_ext (by (clear h0 ysz xsz e elast l1 rq eq ek k1 rp ep hA1 sz hz nb1 na1 hsb h2 h1; lia)) (by (clear h0 ysz xsz e2 e elast rq eq ek k1 rp ep hA1 nb1 na1 hsb h2 h1; lia)), R_ext (by (clear h0 ysz xsz e2 e elast l1 rq eq k1 rp ep hA1 sz hz nb1 na1 h2 h1; lia)) (by (clear h0 ysz xsz e2 e elast l1 rq eq ek k1 rp ep hA1 nb1 na1 hsb h2 h1; lia)), show sa + k + (sb - (sa + k) - 1) = sb - 1 by (clear h0 ysz xsz e2 e elast l1 rq eq k1 rp ep hA1 sz hz nb1 na1 h2 h1; lia), rq]
    have := By_t (l2 (n2 - 1) (by (clear h0 ysz xsz e elast l1 rq eq ek k1 rp ep hA1 sz hz nb1 na1 hsb h2 h1; lia)))
    (clear h0 ysz xsz e2 e elast l1 rq eq ek k1 rp ep hA1 sz hz nb1 na1 hsb h2 h1; lia)
  have fin : ∀ r st2, Kpt st1 st2 → Mg rk ((arrOf st).extract (sa + k) sb) ((arrOf st).extract sb (sb + n2)) r → wpS (model prog w) A E s (do
      modify fun s => setArr s (List.foldl (fun a x => a.setIfInBounds (sa + k + x.snd) x.fst) (arrOf s) r.toList.zipIdx)
      let __do_lift ← get
      pure (failedOf __do_lift).isNone) Q st2 := by
    intro r st2 k2' mg
    have hA2 : arrOf st2 = arrOf st := k2'.a.trans hA1
    refine wpS_bind (wpS_modify ?_)
    refine wpS_bind (wpS_get ?_)
    have hf : failedOf (setArr st2 (List.foldl (fun a x => a.setIfInBounds (sa + k + x.snd) x.fst) (arrOf st2) r.toList.zipIdx)) = none := k2'.f.trans hB1.failed
    rw [hf]
    have rl : r.toList.length = sb - (sa + k) + n2 := by
      rw [mg.perm.length_eq, List.length_append, Array.length_toList, Array.length_toList, xsz, ysz]
    have rp' : r.toList.Perm (((arrOf st).toList.drop (sa + k)).take (sb - (sa + k) + n2)) := by
      refine mg.perm.trans (List.Perm.of_eq ?_)
      rw [ext_list, ext_list, List.take_add, List.drop_drop, show sb + n2 - sb = n2 by (clear rl hf hA2 hl h0 ysz xsz e2 e elast l1 rq eq ek k1 rp ep hA1 sz hz nb1 na1 hsb h2 h1; lia), show sa + k + (sb - (sa + k)) = sb by (clear rl hf hA2 hl h0 ysz xsz e2 e elast l1 rq eq ek rp ep hA1 sz hz nb1 na1 h2 h1; lia)]
    have get : ∀ j, (arrOf (setArr st2 (List.foldl (fun a x => a.setIfInBounds (sa + k + x.snd) x.fst) (arrOf st2) r.toList.zipIdx)))[j]? = if sa + k ≤ j ∧ j < sb + n2 then r.toList[j - (sa + k)]? else (arrOf st)[j]? := fun j => by
      show (List.foldl (fun a x => a.setIfInBounds (sa + k + x.snd) x.fst) (arrOf st2) r.toList.zipIdx)[j]? = _
      rw [hA2, put_get (sa + k) r.toList 0 (arrOf st) j (by (clear hf hA2 hl h0 ysz xsz e2 e elast rq eq ek rp ep hA1 nb1 na1 h2 h1; lia)), rl]
      by_cases c : sa + k ≤ j ∧ j < sb + n2
      · rw [if_pos c, if_pos (by (clear rl hf hA2 hl h0 ysz xsz e2 e elast l1 rq eq ek k1 rp ep hA1 sz hz nb1 na1 hsb h2 h1; lia))]; rfl
      · rw [if_neg c, if_neg (by (clear rl hf hA2 hl h0 ysz xsz e2 e elast l1 rq eq ek rp ep hA1 sz hz nb1 na1 h2 h1; lia))]
    have hB2 : SB κ a₀ pd1 (setArr st2 (List.foldl (fun a x => a.setIfInBounds (sa + k + x.snd) x.fst) (arrOf st2) r.toList.zipIdx)) := by
      refine ⟨?_, k2'.k.trans hB1.kind, hf, k2'.p.trans hB1.pend⟩
      show (List.foldl (fun a x => a.setIfInBounds (sa + k + x.snd) x.fst) (arrOf st2) r.toList.zipIdx).Perm a₀
      rw [hA2]
      exact (put_perm rl (by (clear rl hf hA2 hl h0 ysz xsz e2 e elast rq eq ek rp ep hA1 nb1 na1 h2 h1; lia)) rp').trans hB.perm
    generalize setArr st2 (List.foldl (fun a x => a.setIfInBounds (sa + k + x.snd) x.fst) (arrOf st2) r.toList.zipIdx) = st3 at get hB2 ⊢
    have out : ∀ j, ¬ (sa + k ≤ j ∧ j < sb + n2) → R rk (arrOf st3) j = R rk (arrOf st) j := fun j hj => R_congr (by rw [get j, if_neg hj])
    have mid : ∀ j, sa + k ≤ j → j < sb + n2 → ∃ j0, sa + k ≤ j0 ∧ j0 < sb + n2 ∧ R rk (arrOf st3) j = R rk (arrOf st) j0 := fun j j1 j2 => by
      have e := get j
      rw [if_pos ⟨j1, j2⟩, List.getElem?_eq_getElem (by (clear e j1 hf hA2 hl h0 ysz xsz e2 elast l1 rq eq k1 rp ep hA1 sz hz nb1 na1 h2 h1; lia))] at e
      have hm : r.toList[j - (sa + k)]'(by (clear e j1 hf hA2 hl h0 ysz xsz e2 elast l1 rq eq k1 rp ep hA1 sz hz nb1 na1 h2 h1; lia)) ∈ ((arrOf st).toList.drop (sa + k)).take (sb - (sa + k) + n2) := rp'.mem_iff.mp (List.getElem_mem _)
      obtain ⟨j0, a1, a2, a3⟩ := mem_take_drop (rk := rk) hm
      exact ⟨sa + k + j0, by (clear a3 a2 a1 e j1 hf hA2 hl h0 ysz xsz e2 elast l1 rq eq k1 rp ep hA1 sz hz nb1 na1 h2 h1; lia), by (clear a3 a2 e j1 hf hA2 hl h0 ysz xsz e2 elast l1 rq eq k1 rp ep hA1 sz hz nb1 na1 h2 h1; lia), by rw [R_some e, a3]⟩
    refine wpS_pure (h st3 hB2 (fun j hj => by rw [get j, if_neg (by (clear rl hf hA2 hl h0 ysz xsz e2 e elast rq eq ek k1 rp ep hA1 sz hz nb1 na1 hsb h2 h1; lia))]) fun i j a b c => ?_)
    by_cases i1 : i < sa + k
    · have ei := By_f (k2 (i - sa) (by (clear c b rl hf hA2 hl h0 ysz xsz e2 e elast l1 rq eq ek k1 rp ep hA1 sz hz nb1 na1 hsb h2 h1; lia)))
      rw [show sa + (i - sa) = i by (clear ei i1 c b rl hf hA2 hl h0 ysz xsz e2 e elast l1 rq eq ek k1 rp ep hA1 sz hz nb1 na1 hsb h2 h1; lia), ← rp] at ei
      rw [out i (by (clear ei c b a rl hf hA2 hl h0 ysz xsz e2 e elast l1 rq eq ek k1 rp ep hA1 sz hz nb1 na1 hsb h2 h1; lia))]
      have key : ∀ j0, sa + k ≤ j0 → j0 < sb + nb → R rk (arrOf st) i ≤ R rk (arrOf st) j0 := fun j0 b1 b2 => by
        by_cases c : j0 < sb
        · exact s1 i j0 a (by (clear c b2 ei b a rl hf hA2 hl h0 ysz xsz e2 e elast l1 rq eq ek k1 rp ep hA1 sz hz nb1 na1 hsb h2 h1; lia)) (by (clear b2 b1 ei i1 b a rl hf hA2 hl h0 ysz xsz e2 e elast l1 rq eq ek k1 rp ep hA1 sz hz nb1 na1 h2 h1; lia))
        · have := s2 sb j0 (Nat.le_refl _) (by (clear b2 b1 ei i1 b a rl hf hA2 hl h0 ysz xsz e2 e elast l1 rq eq ek k1 rp ep hA1 sz hz nb1 na1 hsb h2 h1; lia)) b2; (clear c b2 b1 i1 b a rl hf hA2 hl h0 ysz xsz e2 e elast l1 rq eq ek k1 rp ep hA1 sz hz nb1 na1 hsb h2 h1; lia)
      by_cases j1 : sa + k ≤ j ∧ j < sb + n2
      · obtain ⟨j0, b1, b2, b3⟩ := mid j j1.1 j1.2
        rw [b3]
        exact key j0 b1 (by (clear b3 b1 j1 ei i1 c b a rl hf hA2 hl h0 ysz xsz e2 e elast rq eq ek k1 rp ep hA1 sz hz nb1 na1 hsb h2 h1; lia))
      · rw [out j j1]
        by_cases j2 : j < sa + k
        · exact s1 i j a b (by (clear j1 ei i1 c b a rl hf hA2 hl h0 ysz xsz e2 e elast l1 rq eq ek rp ep hA1 sz hz nb1 na1 hsb h2 h1; lia))
        · exact key j (by (clear j1 ei i1 c b a rl hf hA2 hl h0 ysz xsz e2 e elast l1 rq eq ek k1 rp ep hA1 sz hz nb1 na1 hsb h2 h1; lia)) c
    · by_cases i2 : i < sb + n2
      · by_cases j2 : j < sb + n2
        · have e1 := get i
          have e2 := get j
          rw [if_pos ⟨by (clear e2 e1 j2 i2 c b a rl hf hA2 hl h0 ysz xsz e elast l1 rq eq ek k1 rp ep hA1 sz hz nb1 na1 hsb h2 h1; lia), i2⟩, List.getElem?_eq_getElem (by (clear e2 e1 j2 i1 c b a hf hA2 hl h0 ysz xsz e elast l1 rq eq ek k1 rp ep hA1 sz hz nb1 na1 hsb h2 h1; lia))] at e1
          rw [if_pos ⟨by (clear e2 e1 j2 i2 c a rl hf hA2 hl h0 ysz xsz e elast l1 rq eq ek k1 rp ep hA1 sz hz nb1 na1 hsb h2 h1; lia), j2⟩, List.getElem?_eq_getElem (by (clear e2 e1 i2 i1 c b a hf hA2 hl h0 ysz xsz e elast l1 rq eq ek k1 rp ep hA1 sz hz nb1 na1 hsb h2 h1; lia))] at e2
          rw [R_some e1, R_some e2]
          by_cases eij : i = j
          · subst eij; exact Nat.le_refl _
          · exact List.pairwise_iff_getElem.mp mg.srt _ _ _ _ (by (clear e2 e1 j2 i2 c a rl hf hA2 hl h0 ysz xsz e elast l1 rq eq ek k1 rp ep hA1 sz hz nb1 na1 hsb h2 h1; lia))
        · obtain ⟨i0, b1, b2, b3⟩ := mid i (by (clear j2 i2 c b a rl hf hA2 hl h0 ysz xsz e2 e elast l1 rq eq ek k1 rp ep hA1 sz hz nb1 na1 hsb h2 h1; lia)) i2
          rw [b3, out j (by (clear b3 b2 b1 i2 i1 c b a rl hf hA2 hl h0 ysz xsz e2 e elast l1 rq eq ek k1 rp ep hA1 sz hz nb1 na1 hsb h2 h1; lia))]
          by_cases c' : i0 < sb
          · have e1 := s1 i0 (sb - 1) (by (clear c' b3 b2 j2 i2 i1 c b a rl hf hA2 hl h0 ysz xsz e2 e elast l1 rq eq ek k1 rp ep hA1 sz hz nb1 na1 hsb h2 h1; lia)) (by (clear b3 b2 b1 j2 i2 i1 c b a rl hf hA2 hl h0 ysz xsz e2 e elast l1 rq eq ek k1 rp ep hA1 sz hz nb1 na1 hsb h2 h1; lia)) (by (clear c' b3 b2 b1 j2 i2 i1 c b a rl hf hA2 hl h0 ysz xsz e2 e elast l1 rq eq ek k1 rp ep hA1 sz hz nb1 h2 h1; lia))
            have e2 := By_t' (l3 (j - sb) (by (clear e1 c' b3 b2 b1 i2 i1 c b a rl hf hA2 hl h0 ysz xsz e2 e elast l1 rq eq ek k1 rp ep hA1 sz hz nb1 na1 hsb h2 h1; lia)) (by (clear e1 c' b3 b2 b1 j2 i2 i1 b a rl hf hA2 hl h0 ysz xsz e2 e elast l1 rq eq ek k1 rp ep hA1 sz hz na1 hsb h2 h1; lia)))
            rw [show sb + (j - sb) = j by (clear e2 e1 c' b3 b2 b1 i2 i1 c b a rl hf hA2 hl h0 ysz xsz e elast l1 rq eq ek k1 rp ep hA1 sz hz nb1 na1 hsb h2 h1; lia), ← rq] at e2
            (clear c' b3 b2 b1 j2 i2 i1 c b a rl hf hA2 hl h0 ysz xsz e elast l1 rq eq ek k1 rp ep hA1 sz hz nb1 na1 hsb h2 h1; lia)
          · exact s2 i0 j (by (clear b3 b2 b1 j2 i2 i1 c b a rl hf hA2 hl h0 ysz xsz e2 e elast l1 rq eq ek k1 rp ep hA1 sz hz nb1 na1 hsb h2 h1; lia)) (by (clear c' b3 b1 i2 i1 c b a rl hf hA2 hl h0 ysz xsz e2 e elast l1 rq eq ek k1 rp ep hA1 sz hz nb1 na1 hsb h2 h1; lia)) c
      · rw [out i (by (clear i1 c b a rl hf hA2 hl h0 ysz xsz e2 e elast l1 rq eq ek k1 rp ep hA1 sz hz nb1 na1 hsb h2 h1; lia)), out j (by (clear i1 c a rl hf hA2 hl h0 ysz xsz e2 e elast l1 rq eq ek k1 rp ep hA1 sz hz nb1 na1 hsb h2 h1; lia))]
        exact s2 i j (by (clear i1 c b a rl hf hA2 hl h0 ysz xsz e2 e elast l1 rq eq ek k1 rp ep hA1 sz hz nb1 na1 hsb h2 h1; lia)) b c
  refine wpS_ite (fun _ => ?_) (fun _ => ?_)
  · exact wpS_bind (wpS_mergeLo C hB1.kind xin yin (by (clear hl h0 ysz e2 e elast l1 rq eq k1 rp ep hA1 sz hz nb1 na1 h2 h1; lia)) (by (clear hl h0 xsz e2 e elast l1 rq eq k1 rp ep hA1 sz hz nb1 na1 hsb h2 h1; lia)) sx sy h0 hl fin)
  · exact wpS_bind (wpS_mergeHi C hB1.kind xin yin (by (clear hl h0 ysz e2 e elast l1 rq eq ek k1 rp ep hA1 sz hz nb1 na1 h2 h1; lia)) (by (clear hl h0 xsz e elast l1 rq eq ek k1 rp ep hA1 sz hz nb1 na1 hsb h2 h1; lia)) sx sy h0 hl fin)
end
end Tim
set_option Elab.async false
set_option linter.all false
set_option maxRecDepth 100000
set_option maxHeartbeats 4000000
namespace Tim
open PySem PyProof.Rows
section
variable {prog : Program} {w : World} {A : Around} {E : Value → Shared → Prop} {s : Shared} {κ : SortKind} {a₀ : Array Keyed} {rk : Value → Nat} {pd : Array (Nat × Nat × Nat)}
def Runs (rk : Value → Nat) (xs : Array Keyed) : List (Nat × Nat × Nat) → Nat → Nat → Prop
  | [], a, e => a = e
  | (s, n, _) :: r, a, e => s = a ∧ 1 ≤ n ∧ Seg rk xs a (a + n) ∧ Runs rk xs r (a + n) e
theorem Runs.le {xs : Array Keyed} : ∀ {l : List (Nat × Nat × Nat)} {a e : Nat}, Runs rk xs l a e → a + l.length ≤ e
  | [], a, e, h => Nat.le_of_eq h
  | (s, n, _) :: r, a, e, h => by
    have := Runs.le h.2.2.2
    have := h.2.1
    rw [List.length_cons]; lia
theorem Runs.app {xs : Array Keyed} {r : List (Nat × Nat × Nat)} : ∀ {l : List (Nat × Nat × Nat)} {a e : Nat}, Runs rk xs (l ++ r) a e ↔ ∃ m, Runs rk xs l a m ∧ Runs rk xs r m e
  | [], a, e => ⟨fun h => ⟨a, rfl, h⟩, fun ⟨m, h1, h2⟩ => by
      have h1 : a = m := h1
      subst h1; exact h2⟩
  | (s, n, _) :: l, a, e => by
    constructor
    · rintro ⟨h1, h2, h3, h4⟩
      obtain ⟨m, m1, m2⟩ := Runs.app.mp h4
      exact ⟨m, ⟨h1, h2, h3, m1⟩, m2⟩
    · rintro ⟨m, ⟨h1, h2, h3, h4⟩, m2⟩
      exact ⟨h1, h2, h3, Runs.app.mpr ⟨m, h4, m2⟩⟩
theorem Runs.congr {xs ys : Array Keyed} : ∀ {l : List (Nat × Nat × Nat)} {a e : Nat}, Runs rk xs l a e → (∀ j, a ≤ j → j < e → R rk xs j = R rk ys j) → Runs rk ys l a e
  | [], a, e, h, _ => h
  | (s, n, _) :: r, a, e, ⟨h1, h2, h3, h4⟩, g => by
    have le := Runs.le h4
    refine ⟨h1, h2, fun i j x y z => ?_, Runs.congr h4 fun j x y => g j (by (clear y le h2 h1; lia)) y⟩
    rw [← g i x (by (clear x h2 h1; lia)), ← g j (by (clear z le h2 h1; lia)) (by (clear y x h2 h1; lia))]
    exact h3 i j x y z
theorem split2 {α : Type} {l : List α} {i : Nat} (h : i + 1 < l.length) : ∃ pre p q post, l = pre ++ p :: q :: post ∧ pre.length = i := by
  refine ⟨l.take i, l[i], l[i + 1], l.drop (i + 2), ?_, by rw [List.length_take]; lia⟩
  rw [← List.drop_eq_getElem_cons, ← List.drop_eq_getElem_cons, List.take_append_drop]
theorem wpS_mergeRuns {st : SortSt} {i e : Nat} {Q : Bool → SortSt → Prop} (C : Cmp prog w A s κ a₀ rk) (hB : SB κ a₀ pd st) (hr : Runs rk (arrOf st) pd.toList 0 e) (he : e ≤ a₀.size) (hi : i + 1 < pd.size)
    (h : ∀ pd' st', SB κ a₀ pd' st' → Runs rk (arrOf st') pd'.toList 0 e → pd'.size + 1 = pd.size → (∀ j, e ≤ j → (arrOf st')[j]? = (arrOf st)[j]?) → Q true st') : wpS (model prog w) A E s (mergeAt' i) Q st := by
  obtain ⟨pre, ⟨sa, na, pw⟩, ⟨sb, nb, pw2⟩, post, el, pl⟩ := split2 (l := pd.toList) (i := i) (by rw [Array.length_toList]; exact hi)
  rw [el] at hr
  obtain ⟨m, r1, r2⟩ := Runs.app.mp hr
  obtain ⟨e1, n1, s1, e2, n2, s2, r3⟩ := r2
  subst e1
  have le3 := Runs.le r3
  have h1 : pd[i]? = some (sa, na, pw) := by rw [← Array.getElem?_toList, el, List.getElem?_append_right (by (clear le3 e2 n2 n1 el hi he; lia)), pl, Nat.sub_self]; rfl
  have h2 : pd[i + 1]? = some (sb, nb, pw2) := by rw [← Array.getElem?_toList, el, List.getElem?_append_right (by (clear h1 le3 e2 n2 n1 el hi he; lia)), pl, show i + 1 - i = 1 by (clear h1 le3 e2 n2 n1 pl el hi he; lia)]; rfl
  refine wpS_mergeAt C hB h1 h2 e2 n1 n2 (by (clear h2 h1 n2 n1 pl el hi; lia)) s1 (by rw [e2]; exact s2) fun st' hB' out seg => ?_
  have ep : ((pd.setIfInBounds i (sa, na + nb, pw)).eraseIdxIfInBounds (i + 1)).toList = pre ++ (sa, na + nb, pw) :: post := by
    rw [Array.toList_eraseIdxIfInBounds, Array.toList_setIfInBounds, el, List.set_append_right _ _ (by (clear h2 h1 le3 e2 n2 n1 el hi he; lia)), pl, Nat.sub_self]
    rw [List.eraseIdx_append_of_length_le (by (clear h2 h1 le3 e2 n2 n1 el hi he; lia)), pl, show i + 1 - i = 1 by (clear h2 h1 le3 e2 n2 n1 pl el hi he; lia)]
    rfl
  refine h _ st' hB' ?_ ?_ fun j hj => out j (.inr (by (clear ep h2 h1 n2 n1 pl el hi he; lia)))
  · rw [ep]
    refine Runs.app.mpr ⟨sa, r1.congr fun j _ j2 => R_congr (out j (.inl j2)).symm, rfl, by (clear ep h2 h1 le3 e2 n2 pl el hi he; lia), ?_, ?_⟩
    · rw [show sa + (na + nb) = sb + nb by (clear ep h2 h1 le3 n2 n1 pl el hi he; lia)]; exact seg
    · rw [← Nat.add_assoc]
      exact r3.congr fun j j1 j2 => R_congr (out j (.inr (by (clear j2 ep h2 h1 le3 n2 n1 pl el hi he; lia)))).symm
  · rw [← Array.length_toList, ep, ← Array.length_toList, el]
    simp only [List.length_append, List.length_cons]
    (clear ep h2 h1 le3 e2 n2 n1 pl el hi he; lia)
theorem Runs.modify {xs : Array Keyed} {f : Nat × Nat × Nat → Nat × Nat × Nat} (hf : ∀ x, (f x).1 = x.1 ∧ (f x).2.1 = x.2.1) (l : List (Nat × Nat × Nat)) : ∀ (i a e : Nat), Runs rk xs l a e → Runs rk xs (l.modify i f) a e := by
  induction l with
  | nil => intro i a e h; cases i <;> exact h
  | cons t r ih =>
    obtain ⟨s, n, p⟩ := t
    intro i a e h
    obtain ⟨h1, h2, h3, h4⟩ := h
    cases i with
    | zero =>
      rw [List.modify_zero_cons]
      have e2 := hf (s, n, p)
      rcases hfp : f (s, n, p) with ⟨s', n', p'⟩
      rw [hfp] at e2
      obtain ⟨q1, q2⟩ := e2
      have q1 : s' = s := q1
      have q2 : n' = n := q2
      rw [q1, q2]
      exact ⟨h1, h2, h3, h4⟩
    | succ i =>
      rw [List.modify_succ_cons]
      exact ⟨h1, h2, h3, ih i _ _ h4⟩
theorem wpS_sortRuns {st : SortSt} {Q : Unit → SortSt → Prop} (C : Cmp prog w A s κ a₀ rk) (hB : SB κ a₀ #[] st) (h2 : 2 ≤ a₀.size)
    (h : ∀ st', (arrOf st').Perm a₀ → failedOf st' = none → Seg rk (arrOf st') 0 a₀.size → Q () st') : wpS (model prog w) A E s sortRuns' Q st := by
  rw [sortRuns'_eq]
  refine wpS_bind (wpS_get ?_)
  dsimp only
  simp only [hB.size]
  generalize minRun' a₀.size a₀.size 0 = mr
  refine wpS_bind (wpS_mono (wpS_forRange (I := fun x c st' => ∃ lo pd, c = (none, lo) ∧ x ≤ lo ∧ lo ≤ a₀.size ∧ SB κ a₀ pd st' ∧ Runs rk (arrOf st') pd.toList 0 lo)
    (Q := fun c st' => ∃ pd, c = (none, a₀.size) ∧ SB κ a₀ pd st' ∧ Runs rk (arrOf st') pd.toList 0 a₀.size) ?step ?fin ⟨0, #[], rfl, by (clear h2; lia), by (clear h2; lia), hB, rfl⟩) ?post)
  case fin =>
    rintro c st' ⟨lo, pd, rfl, x1, x2, hB', hr⟩
    have : lo = a₀.size := by (clear h2; lia)
    subst this
    exact ⟨pd, rfl, hB', hr⟩
  case step =>
    rintro x c st' _ hx ⟨lo, pd, rfl, x1, x2, hB', hr⟩
    dsimp only
    refine wpS_ite (fun ge => ?_) (fun ge => ?_)
    · have : lo = a₀.size := by (clear x1 hx h2; lia)
      subst this
      exact wpS_pure ⟨pd, rfl, hB', hr⟩
    refine wpS_bind (wpS_countRun C (by (clear ge x1 hx h2; lia)) (by (clear x2 x1 hx h2; lia)) hB' fun m st2 hB2 kb2 m1 m2 hs2 => ?_)
    dsimp only
    have hr2 := hr.congr (ys := arrOf st2) fun j _ j2 => R_congr (kb2 j j2).symm
    apply wpS_ite
    case' h1 =>
      intro lt
      refine wpS_bind (wpS_lift (wpAny_rule ⟨rfl, ?_⟩))
      refine wpS_bind (wpS_binarySort C (by (clear lt m2 m1 ge x1 hx h2; lia)) (by (clear m1 ge x2 x1 hx h2; lia)) hB2 hs2 fun st3 hB3 kb3 hs3 => ?_)
      simp only [Bool.not_true, Bool.false_eq_true, if_false]
      have hr3 := hr2.congr (ys := arrOf st3) fun j _ j2 => R_congr (kb3 j j2).symm
      have n1 : 1 ≤ min (a₀.size - lo) mr := by (clear m2 m1 x2 x1 hx h2; lia)
      have n2 : min (a₀.size - lo) mr ≤ a₀.size - lo := by (clear n1 lt m2 m1 ge x2 x1 hx h2; lia)
      generalize min (a₀.size - lo) mr = n at hs3 n1 n2 ⊢
    case' h2 =>
      intro lt
      have hr3 := hr2
      have hB3 := hB2
      have hs3 := hs2
      have n1 := m1
      have n2 := m2
      revert hr3 hB3 hs3
      generalize st2 = st3
      revert n1 n2
      generalize m = n
      intro n1 n2 hr3 hB3 hs3
    all_goals
      refine wpS_bind (wpS_get ?_)
      have done : ∀ pd4 st4, SB κ a₀ pd4 st4 → Runs rk (arrOf st4) pd4.toList 0 lo → Seg rk (arrOf st4) lo (lo + n) → wpS (model prog w) A E s (do
            modify fun s => setPending s ((pendingOf s).push (lo, n, 0))
            pure (ForInStep.yield ((none : Option Unit), lo + n))) (fun r st' => match r with
              | ForInStep.done c' => ∃ pd, c' = (none, a₀.size) ∧ SB κ a₀ pd st' ∧ Runs rk (arrOf st') pd.toList 0 a₀.size
              | ForInStep.yield c' => ∃ lo pd, c' = (none, lo) ∧ x + 1 ≤ lo ∧ lo ≤ a₀.size ∧ SB κ a₀ pd st' ∧ Runs rk (arrOf st') pd.toList 0 lo) st4 := by
        intro pd4 st4 hB4 hr4 hs4
        refine wpS_bind (wpS_modify (wpS_pure ⟨lo + n, pd4.push (lo, n, 0), rfl, by (clear n2 lt m2 m1 ge x2 hx h2; lia), by (clear n1 lt m2 m1 ge x1 hx h2; lia), ⟨hB4.perm, hB4.kind, hB4.failed, by show (pendingOf st4).push _ = _; rw [hB4.pend]⟩, ?_⟩))
        rw [Array.toList_push]
        exact Runs.app.mpr ⟨lo, hr4, rfl, n1, hs4, rfl⟩
      cases hb : (pendingOf st3).back? with
      | none => exact done _ _ hB3 hr3 hs3
      | some t =>
        obtain ⟨s1, n1', pw⟩ := t
        dsimp only
        generalize power' a₀.size (2 * s1 + n1') (2 * s1 + n1' + n1' + n) a₀.size = pwr
        refine wpS_bind (wpS_mono (wpS_forRange (I := fun y c st4 => ∃ pd4, c = (none, ()) ∧ SB κ a₀ pd4 st4 ∧ Runs rk (arrOf st4) pd4.toList 0 lo ∧ Seg rk (arrOf st4) lo (lo + n))
          (Q := fun c st4 => ∃ pd4, c = (none, ()) ∧ SB κ a₀ pd4 st4 ∧ Runs rk (arrOf st4) pd4.toList 0 lo ∧ Seg rk (arrOf st4) lo (lo + n)) ?_ (fun _ _ z => z) ⟨_, rfl, hB3, hr3, hs3⟩) ?_)
        · rintro y c st4 _ hy ⟨pd4, rfl, hB4, hr4, hs4⟩
          refine wpS_bind (wpS_get ?_)
          rw [hB4.pend]
          cases hg : (if pd4.size > 1 then pd4[pd4.size - 2]? else none) with
          | none => exact wpS_pure ⟨pd4, rfl, hB4, hr4, hs4⟩
          | some t =>
            obtain ⟨f1, f2, older⟩ := t
            dsimp only
            have gt : pd4.size > 1 := by
              by_cases g : pd4.size > 1
              · exact g
              · rw [if_neg g] at hg; cases hg
            refine wpS_ite (fun _ => ?_) (fun _ => ?_)
            · exact wpS_pure ⟨pd4, rfl, hB4, hr4, hs4⟩
            · refine wpS_bind (wpS_mergeRuns C hB4 hr4 x2 (by (clear hg hy hb n2 n1 lt m2 m1 ge x2 x1 hx h2; lia)) fun pd5 st5 hB5 hr5 _ out5 => ?_)
              simp only [Bool.not_true, Bool.false_eq_true, if_false]
              refine wpS_pure ⟨pd5, rfl, hB5, hr5, fun i j a b c => ?_⟩
              rw [R_congr (out5 i a), R_congr (out5 j (by (clear c gt hg hy hb n2 n1 lt m2 m1 ge x2 x1 hx h2; lia)))]
              exact hs4 i j a b c
        · rintro c st4 ⟨pd4, rfl, hB4, hr4, hs4⟩
          dsimp only
          refine wpS_bind (wpS_modify ?_)
          refine done _ _ ⟨hB4.perm, hB4.kind, hB4.failed, rfl⟩ ?_ hs4
          rw [← hB4.pend] at hr4
          rw [Array.toList_modify]
          refine Runs.modify (fun x => ?_) _ _ _ _ hr4
          exact ⟨rfl, rfl⟩
  case post =>
    rintro c st' ⟨pd, rfl, hB', hr⟩
    dsimp only
    have le := Runs.le hr
    rw [Array.length_toList] at le
    refine wpS_bind (wpS_mono (wpS_forRange (I := fun y c st4 => ∃ pd4, c = (none, ()) ∧ SB κ a₀ pd4 st4 ∧ Runs rk (arrOf st4) pd4.toList 0 a₀.size ∧ pd4.size ≤ max 1 (a₀.size - y))
      (Q := fun c st4 => ∃ pd4, c = (none, ()) ∧ SB κ a₀ pd4 st4 ∧ Runs rk (arrOf st4) pd4.toList 0 a₀.size ∧ pd4.size ≤ 1) ?_ ?_ ⟨pd, rfl, hB', hr, by (clear h2; lia)⟩) ?_)
    · rintro y c st4 _ hy ⟨pd4, rfl, hB4, hr4, le4⟩
      refine wpS_bind (wpS_get ?_)
      rw [hB4.pend]
      refine wpS_ite (fun l1 => ?_) (fun l1 => ?_)
      · exact wpS_pure ⟨pd4, rfl, hB4, hr4, l1⟩
      · have hix : ∀ (c : Prop) [Decidable c], (if c then pd4.size - 2 - 1 else pd4.size - 2) + 1 < pd4.size := by
          intro c _
          split <;> (clear le4 hy le h2; lia)
        refine wpS_bind (wpS_mergeRuns C hB4 hr4 (Nat.le_refl _) (hix _) fun pd5 st5 hB5 hr5 z5 _ => ?_)
        simp only [Bool.not_true, Bool.false_eq_true, if_false]
        exact wpS_pure ⟨pd5, rfl, hB5, hr5, by (clear l1 hy le h2; lia)⟩
    · rintro c st4 ⟨pd4, rfl, hB4, hr4, le4⟩
      exact ⟨pd4, rfl, hB4, hr4, by (clear le h2; lia)⟩
    · rintro c st4 ⟨pd4, rfl, hB4, hr4, le4⟩
      refine wpS_pure (h st4 hB4.perm hB4.failed ?_)
      have ll : pd4.toList.length ≤ 1 := by rw [Array.length_toList]; exact le4
      match hl : pd4.toList, ll, hr4 with
      | [], _, hr4 => have : 0 = a₀.size := hr4; (clear hl ll le4 le; lia)
      | [(s, n, p)], _, hr4 =>
        obtain ⟨_, _, hs, e⟩ := hr4
        have e : 0 + n = a₀.size := e
        rw [e] at hs
        exact hs
end
end Tim
set_option Elab.async false
set_option linter.all false
set_option maxRecDepth 100000
set_option maxHeartbeats 4000000
namespace Tim
open PySem PyProof.Rows
section
variable {prog : Program} {w : World} {A : Around} {E : Value → Shared → Prop} {s : Shared} {κ : SortKind} {rk : Value → Nat}
theorem out_of {vs : List Value} {xs : Array Keyed} (hp : xs.Perm (pairsOf vs)) (hs : Seg rk xs 0 (pairsOf vs).size) : (xs.map (·.2)).toList.Perm vs ∧ (xs.map (·.2)).toList.Pairwise (fun x y => rk x ≤ rk y) := by
  have hl : xs.toList.Perm (vs.zip vs) := by rw [← pairsOf_toList]; exact Array.perm_iff_toList_perm.mp hp
  have hmem : ∀ p, p ∈ xs.toList → p.1 = p.2 := fun p hp' => (mem_zip_self (hl.mem_iff.mp hp')).1
  have e : (xs.map (·.2)).toList = xs.toList.map (·.1) := by
    rw [Array.toList_map]; exact List.map_congr_left fun p hp' => (hmem p hp').symm
  rw [e]
  constructor
  · have := hl.map Prod.fst
    rwa [List.map_fst_zip (Nat.le_refl _)] at this
  · rw [List.pairwise_map, List.pairwise_iff_getElem]
    intro i j hi hj hij
    rw [Array.length_toList] at hi hj
    have := hs i j (Nat.zero_le _) (Nat.le_of_lt hij) (by rw [← hp.size_eq]; exact hj)
    rw [R_get hi, R_get hj] at this
    simpa using this
theorem list_sort_any {a : Addr} {vs : List Value} {n : Nat} {P : PySem.Fin → Shared → Prop} (ho : s.heap.get? a = some (seqObj "list" vs.toArray n)) (hz : vs.length ≤ sizeLine)
    (hk : 2 ≤ vs.length → ∀ h' : Heap, (∀ b o, b ≠ a → s.heap.get? b = some o → h'.get? b = some o) → (∀ (Q : SortKind → Shared → Prop) (E : Value → Shared → Prop), Q κ { s with heap := h' } → wpAny (model prog w) A (keyKind' vs.toArray) Q E { s with heap := h' }) ∧ Cmp prog w A { s with heap := h' } κ (pairsOf vs) rk)
    (h : ∀ out : List Value, out.Perm vs → out.Pairwise (fun x y => rk x ≤ rk y) → P (.done (.ret .none)) { s with heap := sortedHeap s.heap a vs out.toArray }) :
    wpAny (model prog w) A (Builtin.«list.sort» ⟨[.ref a], []⟩) P E s := by
  rw [list_sort_plain]
  have ha : a < s.heap.objs.size := Heap.lt_size ho
  refine wpAny_bind (listItems_at ho rfl ?_)
  refine wpAny_bind (listUpdate_at ho rfl ?_ (by rw [List.size_toArray]; exact hz) (Nat.zero_le _))
  obtain ⟨e1, ho1⟩ : ∃ e1, (s.heap.update a (Obj.mapSeq fun _ => #[])).get? a = some (seqObj "list" #[] e1) := ⟨_, get?_update_seq ho (fun _ => #[])⟩
  refine wpAny_bind (seqEpoch_at ho1 rfl ?_)
  refine wpAny_bind (wpAny_newTuple ?_ (by show vs.length ≤ _; exact hz))
  refine wpAny_bind (wpAny_newList ?_ (Nat.zero_le _))
  refine wpAny_holding ?_
  have keep : ∀ b o, b ≠ a → s.heap.get? b = some o → (((s.heap.update a (Obj.mapSeq fun _ => #[])).push (seqObj "tuple" vs.toArray 0)).push (seqObj "list" #[] 0)).get? b = some o := fun b o nb e => by
    refine Heap.get?_push_of_some _ (Heap.get?_push_of_some _ ?_)
    rw [Heap.get?_update_ne _ _ _ _ nb]
    exact e
  have ho6 : (((s.heap.update a (Obj.mapSeq fun _ => #[])).push (seqObj "tuple" vs.toArray 0)).push (seqObj "list" #[] 0)).get? a = some (seqObj "list" #[] e1) := Heap.get?_push_of_some _ (Heap.get?_push_of_some _ ho1)
  show wpAny (model prog w) A _ P E { s with heap := ((s.heap.update a (Obj.mapSeq fun _ => #[])).push (seqObj "tuple" vs.toArray 0)).push (seqObj "list" #[] 0) }
  dsimp only
  have hsz : vs.toArray.size = vs.length := by simp
  have fin : ∀ st' : SortSt, (arrOf st').Perm (pairsOf vs) → Seg rk (arrOf st') 0 (pairsOf vs).size →
      P (.done (.ret .none)) { s with heap := sortedHeap s.heap a vs ((arrOf st').map (·.2)) } := by
    intro st' hp hs
    obtain ⟨h1, h2⟩ := out_of hp hs
    have := h _ h1 h2
    rwa [Array.toArray_toList] at this
  by_cases h2 : vs.toArray.size < 2
  · rw [if_pos h2, if_pos h2]
    refine wpAny_bind (wpAny_pure ?_)
    rw [StateT.run_pure]
    refine wpAny_bind (wpAny_pure ?_)
    dsimp only
    refine wpAny_bind (seqEpoch_at ho6 rfl ?_)
    refine wpAny_bind (listUpdate_at ho6 rfl ?_ (Nat.zero_le _) (by rw [Array.size_map]; show (pairsOf vs).size ≤ _; rw [pairsOf_size]; omega))
    simp only [bne_self_eq_false, Bool.false_eq_true, if_false]
    refine wpAny_pure (fin (SortSt.mk' general' (vs.toArray.zip vs.toArray) #[] 7 none) (Array.Perm.refl _) ?_)
    intro i j _ hij hj
    have : i = j := by rw [pairsOf_size] at hj; omega
    subst this; exact Nat.le_refl _
  · rw [if_neg h2, if_neg h2]
    obtain ⟨kk, kc⟩ := hk (by omega) _ keep
    refine wpAny_bind (kk _ _ ?_)
    refine wpAny_bind (wpAny_mono (wpS_sortRuns (a₀ := pairsOf vs) (rk := rk) (st := SortSt.mk' κ (vs.toArray.zip vs.toArray) #[] 7 none)
      (Q := fun _ st' => (arrOf st').Perm (pairsOf vs) ∧ failedOf st' = none ∧ Seg rk (arrOf st') 0 (pairsOf vs).size)
      kc ⟨Array.Perm.refl _, rfl, rfl, rfl⟩ (by rw [pairsOf_size]; omega) fun st' a1 a2 a3 => ⟨a1, a2, a3⟩) ?_ fun _ _ e => e)
    rintro ⟨⟨⟩, st'⟩ s' ⟨rfl, hp, hf, hs⟩
    dsimp only
    refine wpAny_bind (seqEpoch_at ho6 rfl ?_)
    refine wpAny_bind (listUpdate_at ho6 rfl ?_ (Nat.zero_le _) (Nat.le_trans (Nat.le_of_eq ((Array.size_map ..).trans (hp.size_eq.trans (pairsOf_size _)))) (Nat.le_succ_of_le hz)))
    rw [hf]
    simp only [bne_self_eq_false, Bool.false_eq_true, if_false]
    exact wpAny_pure (fin st' hp hs)
theorem sorted_any {l : Addr} {vs : List Value} {Q : Value → Shared → Prop} (hl : s.heap.IsList l vs.toArray) (hz : vs.length ≤ sizeLine)
    (hk : 2 ≤ vs.length → ∀ h' : Heap, (∀ b o, s.heap.get? b = some o → h'.get? b = some o) → (∀ (Q : SortKind → Shared → Prop) (E : Value → Shared → Prop), Q κ { s with heap := h' } → wpAny (model prog w) A.in1.in1 (keyKind' vs.toArray) Q E { s with heap := h' }) ∧ Cmp prog w A.in1.in1 { s with heap := h' } κ (pairsOf vs) rk)
    (h : ∀ (h' : Heap) (D : Addr) (c : Nat) (out : List Value), (∀ b o, s.heap.get? b = some o → h'.get? b = some o) → s.heap.objs.size ≤ D → h'.get? D = some (seqObj "list" out.toArray c) → out.Perm vs → out.Pairwise (fun x y => rk x ≤ rk y) → Q (.ref D) { s with heap := h' }) :
    wpAny (model prog w) A (call (.builtin "sorted") [.ref l]) Q E s := by
  refine Calls.call_function_entry kind_sorted plain_sorted entry_sorted (args_sorted1 _) ?_
  unfold Builtin.«sorted»
  refine wpAny_bind (m := checkCount "sorted" 1 1 _) (wpAny_pure ?_)
  refine wpAny_bind (collect_list hl ?_ hz)
  refine wpAny_bind (wpAny_newList ?_ hz)
  have hsz : ((s.heap.push (seqObj "list" #[] 0)).update s.heap.objs.size (Obj.mapSeq (· ++ vs.toArray))).objs.size = s.heap.objs.size + 1 := by
    rw [Heap.size_update, size_push']
  have hoL : (((s.heap.push (seqObj "list" #[] 0)).update s.heap.objs.size (Obj.mapSeq (· ++ vs.toArray))).push (seqObj "list" vs.toArray 0)).get? (s.heap.objs.size + 1) = some (seqObj "list" vs.toArray 0) := by
    rw [← hsz]; exact Heap.get?_push_size _ rfl
  have keep : ∀ b o, s.heap.get? b = some o → (((s.heap.push (seqObj "list" #[] 0)).update s.heap.objs.size (Obj.mapSeq (· ++ vs.toArray))).push (seqObj "list" vs.toArray 0)).get? b = some o := fun b o q => by
    have hlt : b < s.heap.objs.size := Heap.lt_size q
    rw [Heap.get?_push_ne _ _ _ (by rw [hsz]; exact Nat.ne_of_lt (Nat.lt_succ_of_lt hlt)), Heap.get?_update_ne _ _ _ _ (Nat.ne_of_lt hlt), Heap.get?_push_ne _ _ _ (Nat.ne_of_lt hlt)]
    exact q
  show wpAny _ _ _ _ _ { s with heap := ((s.heap.push (seqObj "list" #[] 0)).update s.heap.objs.size (Obj.mapSeq (· ++ vs.toArray))).push (seqObj "list" vs.toArray 0) }
  rw [hsz]
  generalize ((s.heap.push (seqObj "list" #[] 0)).update s.heap.objs.size (Obj.mapSeq (· ++ vs.toArray))).push (seqObj "list" vs.toArray 0) = h1 at keep hoL ⊢
  have nD : ∀ b o, s.heap.get? b = some o → b ≠ s.heap.objs.size + 1 := fun b o e => Nat.ne_of_lt (Nat.lt_succ_of_lt (Heap.lt_size e))
  refine wpAny_bind (wpAny_holding (wpAny_call_entry slot_list_sort ⟨_, hoL, rfl⟩ entry_list_sort (list_sort_any (s := { s with heap := h1 }) hoL hz (fun h2 h' kp => hk h2 h' fun b o e => kp b o (nD b o e) (keep b o e)) fun out p1 p2 => ⟨_, rfl, ?_⟩) (args_list_sort _)))
  refine wpAny_pure ⟨_, rfl, ?_⟩
  obtain ⟨e1, ho1⟩ : ∃ e1, (h1.update (s.heap.objs.size + 1) (Obj.mapSeq fun _ => #[])).get? (s.heap.objs.size + 1) = some (seqObj "list" #[] e1) := ⟨_, get?_update_seq hoL (fun _ => #[])⟩
  have ho2 : (((h1.update (s.heap.objs.size + 1) (Obj.mapSeq fun _ => #[])).push (seqObj "tuple" vs.toArray 0)).push (seqObj "list" #[] 0)).get? (s.heap.objs.size + 1) = some (seqObj "list" #[] e1) := Heap.get?_push_of_some _ (Heap.get?_push_of_some _ ho1)
  refine h (sortedHeap h1 (s.heap.objs.size + 1) vs out.toArray) _ _ out (fun b o e => ?_) (Nat.le_succ _) (by unfold sortedHeap; exact get?_update_seq ho2 (fun _ => out.toArray)) p1 p2
  unfold sortedHeap
  rw [Heap.get?_update_ne _ _ _ _ (nD b o e)]
  refine Heap.get?_push_of_some _ (Heap.get?_push_of_some _ ?_)
  rw [Heap.get?_update_ne _ _ _ _ (nD b o e)]
  exact keep b o e
end
/-! ### ranks out of an order -/
section
theorem countP_lt {α : Type} {p q : α → Bool} {u : α} : ∀ {l : List α}, u ∈ l → q u = true → p u = false → (∀ x, p x = true → q x = true) → l.countP p < l.countP q
  | [], hm, _, _, _ => by simp at hm
  | x :: l, hm, hq, hp, hi => by
    have mono : l.countP p ≤ l.countP q := List.countP_mono_left fun x _ => hi x
    rw [List.countP_cons, List.countP_cons]
    rcases List.mem_cons.mp hm with rfl | hm
    · rw [hq, hp]; simp; omega
    · have := countP_lt hm hq hp hi
      cases e : p x with
      | true => rw [hi x e]; simp; omega
      | false => simp; omega
/-- the rank of a value among the values vs by the order L -/
def rankBy {α : Type} (L : α → α → Bool) (vs : List α) (v : α) : Nat := vs.countP fun u => L u v
structure Swo {α : Type} (L : α → α → Bool) : Prop where
  irr : ∀ a, L a a = false
  tr : ∀ a b c, L a b = true → L b c = true → L a c = true
  ntr : ∀ a b c, L a b = false → L b c = false → L a c = false
theorem rank_lt {α : Type} {L : α → α → Bool} (S : Swo L) {vs : List α} {u v : α} (hu : u ∈ vs) : decide (rankBy L vs u < rankBy L vs v) = L u v := by
  cases e : L u v with
  | true => exact decide_eq_true (countP_lt hu e (S.irr u) fun x hx => S.tr x u v hx e)
  | false =>
    refine decide_eq_false fun z => ?_
    have : rankBy L vs v ≤ rankBy L vs u := List.countP_mono_left fun x _ hx => by
      cases e' : L x u with
      | true => rfl
      | false => rw [S.ntr x u v e' e] at hx; cases hx
    omega
theorem rank_le {α : Type} {L : α → α → Bool} (S : Swo L) {vs : List α} {u v : α} (hv : v ∈ vs) (h : rankBy L vs u ≤ rankBy L vs v) : L v u = false := by
  have := rank_lt S (u := v) (v := u) hv
  rw [← this]
  exact decide_eq_false (by omega)
/-- lists of numbers as tuples are compared -/
def lexB : List Int → List Int → Bool
  | _, [] => false
  | [], _ :: _ => true
  | a :: as, b :: bs => if a = b then lexB as bs else decide (a < b)
theorem lexB_nil (a : List Int) : lexB a [] = false := by cases a <;> rfl
theorem lexB_irr : ∀ a, lexB a a = false
  | [] => rfl
  | a :: as => by unfold lexB; rw [if_pos rfl]; exact lexB_irr as
theorem lexB_tr : ∀ a b c, lexB a b = true → lexB b c = true → lexB a c = true
  | a, [], _, h, _ => by rw [lexB_nil] at h; cases h
  | [], _ :: _, [], _, h => by cases h
  | [], _ :: _, _ :: _, _, _ => rfl
  | _ :: _, _ :: _, [], _, h => by cases h
  | a :: as, b :: bs, c :: cs, h1, h2 => by
    unfold lexB at h1 h2 ⊢
    by_cases e1 : a = b
    · rw [if_pos e1] at h1
      by_cases e2 : b = c
      · rw [if_pos e2] at h2
        rw [if_pos (e1.trans e2)]
        exact lexB_tr as bs cs h1 h2
      · rw [if_neg e2] at h2
        rw [if_neg (e1 ▸ e2), e1]; exact h2
    · rw [if_neg e1] at h1
      have h1 := of_decide_eq_true h1
      by_cases e2 : b = c
      · rw [← e2, if_neg e1]; exact decide_eq_true h1
      · rw [if_neg e2] at h2
        have h2 := of_decide_eq_true h2
        rw [if_neg (by omega)]; exact decide_eq_true (by omega)
theorem lexB_ntr : ∀ a b c, lexB a b = false → lexB b c = false → lexB a c = false
  | a, _, [], _, _ => lexB_nil a
  | [], [], _ :: _, _, h => by cases h
  | [], _ :: _, _ :: _, h, _ => by cases h
  | _ :: _, [], _ :: _, _, h => by cases h
  | a :: as, b :: bs, c :: cs, h1, h2 => by
    unfold lexB at h1 h2 ⊢
    by_cases e1 : a = b
    · rw [if_pos e1] at h1
      by_cases e2 : b = c
      · rw [if_pos e2] at h2
        rw [if_pos (e1.trans e2)]
        exact lexB_ntr as bs cs h1 h2
      · rw [if_neg e2] at h2
        rw [if_neg (e1 ▸ e2), e1]; exact h2
    · rw [if_neg e1] at h1
      have h1 := of_decide_eq_false h1
      by_cases e2 : b = c
      · rw [← e2, if_neg e1]; exact decide_eq_false h1
      · rw [if_neg e2] at h2
        have h2 := of_decide_eq_false h2
        rw [if_neg (by omega)]; exact decide_eq_false (by omega)
theorem swo_key {α : Type} (key : α → List Int) : Swo fun a b => lexB (key a) (key b) := ⟨fun a => lexB_irr _, fun a b c => lexB_tr _ _ _, fun a b c => lexB_ntr _ _ _⟩
end
end Tim
set_option Elab.async false
set_option linter.all false
set_option maxRecDepth 100000
set_option maxHeartbeats 4000000
namespace L2
open PySem PySem.Spec PyProof.Rows PySem.W
section
variable {X : Cx}
/-- what a value is sorted by: a number, or a tuple's numbers -/
def keyOf (h : Heap) : Value → List Int
  | .int n _ => [n]
  | .ref a => match h.get? a with
    | some o => match o.data with
      | .seq xs _ => xs.toList.map numOf
      | _ => []
    | none => []
  | _ => []
theorem lex_fin {prog : Program} {w : World} {A : Around} {s : Shared} {Q : Bool → Shared → Prop} : ∀ (xs ys : List Value) (ns ms : List Int) (i : Nat), IntsAre xs ns → IntsAre ys ms → ∀ (fin : Bool), (ns.length = ms.length → fin = false) → ns.length = ms.length → Q (Tim.lexB ns ms) s → KatLex prog w A true fin Q (xs.zip ys) i s
  | _, _, [], [], i, .nil, .nil, fin, hf, _, h => by
    show Q fin s
    rw [hf rfl]
    exact h
  | _, _, _ :: _, [], _, _, _, _, _, hl, _ => by cases hl
  | _, _, [], _ :: _, _, _, _, _, _, hl, _ => by cases hl
  | _, _, n :: ns, m :: ms, i, .cons _ t hx, .cons _ u hy, fin, hf, hl, h => by
    rw [List.zip_cons_cons]
    refine kat_cons (wpAny_eqBool_int ?_)
    have hl' : ns.length = ms.length := by simpa using hl
    by_cases e : n = m
    · subst e
      rw [show (n == n) = true by simp]
      refine kat_yes (lex_fin _ _ ns ms (i + 1) hx hy fin (fun z => hf (by simpa using z)) hl' ?_)
      unfold Tim.lexB at h
      rwa [if_pos rfl] at h
    · rw [show (n == m) = false by simpa using e]
      unfold Tim.lexB at h
      rw [if_neg e] at h
      refine kat_no ?_
      cases (true && i == 0) with
      | true => exact oneLt_int h
      | false => exact kat_one _ _ (lt_int (show W.BoolBack Q (.bool (decide (n < m))) s from h))
theorem keyOf_tup {h : Heap} {a : Addr} {its : List Value} {ns : List Int} (ht : IsTup h a its.toArray) (hi : IntsAre its ns) : keyOf h (.ref a) = ns := by
  obtain ⟨o, e, _, n, d⟩ := ht
  show (match h.get? a with
    | some o => match o.data with
      | .seq xs _ => xs.toList.map numOf
      | _ => []
    | none => []) = ns
  rw [e]
  dsimp only
  rw [d]
  dsimp only
  exact hi.nums
def Tups1 (h : Heap) (k : Nat) (vs : List Value) : Prop := ∀ v ∈ vs, ∃ a its ns, v = .ref a ∧ IsTup h a its.toArray ∧ IntsAre its ns ∧ ns.length = k
theorem tups_cmp {prog : Program} {w : World} {A : Around} {s : Shared} {vs : List Value} {k : Nat} {h0 : Heap} (T : Tups1 h0 k vs) (kp : ∀ b o, h0.get? b = some o → s.heap.get? b = some o) :
    Tim.Cmp prog w A s (tuples' true) (pairsOf vs) (Tim.rankBy (fun a b => Tim.lexB (keyOf h0 a) (keyOf h0 b)) vs) := by
  refine ⟨fun p hp q hq E Q h => ?_⟩
  rw [pairsOf_toList] at hp hq
  obtain ⟨_, mp⟩ := mem_zip_self hp
  obtain ⟨_, mq⟩ := mem_zip_self hq
  rw [Tim.rank_lt (Tim.swo_key (keyOf h0)) mp] at h
  obtain ⟨a, its, ns, ep, ta, ia, la⟩ := T _ mp
  obtain ⟨b, jts, ms, eq, tb, ib, lb⟩ := T _ mq
  rw [ep, eq] at h ⊢
  rw [keyOf_tup ta ia, keyOf_tup tb ib] at h
  obtain ⟨oa, ea, ca, n1, da⟩ := ta
  obtain ⟨ob, eb, cb, n2, db⟩ := tb
  have l1 : its.length = ns.length := ia.length
  have l2 : jts.length = ms.length := ib.length
  refine kat_lt (kp _ _ ea) da (kp _ _ eb) db ?_
  have e1 : its.toArray.toList = its := by simp
  have e2 : jts.toArray.toList = jts := by simp
  rw [e1, e2]
  exact lex_fin its jts ns ms 0 ia ib _ (fun z => decide_eq_false (by rw [List.size_toArray, List.size_toArray]; omega)) (by omega) h
theorem tups_firsts {h0 h1 : Heap} {k : Nat} (hk : 1 ≤ k) (kp : ∀ b o, h0.get? b = some o → h1.get? b = some o) : ∀ {vs : List Value}, Tups1 h0 k vs → ∃ fs, KatTups h1 vs fs ∧ fs.length = vs.length ∧ ∀ f ∈ fs, ∃ n t, f = Value.int n t
  | [], _ => ⟨[], trivial, rfl, fun _ z => absurd z (by simp)⟩
  | v :: vs, T => by
    obtain ⟨fs, t1, t2, t3⟩ := tups_firsts hk kp (vs := vs) fun u hu => T u (List.mem_cons_of_mem _ hu)
    obtain ⟨a, its, ns, rfl, ⟨o, e, c, n, d⟩, ia, la⟩ := T v (List.mem_cons_self ..)
    match its, ns, ia, la, d with
    | _, _, .nil, la, d => simp at la; omega
    | _, _, .cons m t r, la, d =>
      refine ⟨_ :: fs, KatTups.cons (kp _ _ e) c d rfl t1, by simp [t2], fun f hf => ?_⟩
      rcases List.mem_cons.mp hf with rfl | hf
      · exact ⟨_, _, rfl⟩
      · exact t3 f hf
theorem tups_kind {prog : Program} {w : World} {A : Around} {s : Shared} {vs : List Value} {k : Nat} {h0 : Heap} {Q : SortKind → Shared → Prop} {E : Value → Shared → Prop} (hk : 1 ≤ k) (T : Tups1 h0 k vs) (hv : 2 ≤ vs.length) (kp : ∀ b o, h0.get? b = some o → s.heap.get? b = some o)
    (h : Q (tuples' true) s) : wpAny (model prog w) A (keyKind' vs.toArray) Q E s := by
  obtain ⟨fs, t1, t2, t3⟩ := tups_firsts hk kp T
  refine kat_kind (T := .type "int") t1 (by omega) (fun v hv => ?_) rfl h
  obtain ⟨n, t, rfl⟩ := t3 v hv
  exact .now
theorem vals_perm {ys : List V} {us out : List Value} (r : Vals ys us) (p : out.Perm us) : ∃ zs, Vals zs out ∧ zs.Perm ys := by
  induction p generalizing ys with
  | nil => cases r; exact ⟨[], .nil, .refl _⟩
  | cons x p ih =>
    cases r with
    | cons rx rt =>
      obtain ⟨zs, z1, z2⟩ := ih rt
      exact ⟨_ :: zs, .cons rx z1, .cons _ z2⟩
  | swap x y l =>
    cases r with
    | cons rx rt =>
      cases rt with
      | cons ry rl => exact ⟨_, .cons ry (.cons rx rl), .swap _ _ _⟩
  | trans p q ih1 ih2 =>
    obtain ⟨zs, z1, z2⟩ := ih2 r
    obtain ⟨ws, w1, w2⟩ := ih1 z1
    exact ⟨ws, w1, w2.trans z2⟩
theorem ints_vals : ∀ {ns : List Int} {vs : List Value}, Vals (ns.map V.int) vs → IntsAre vs ns
  | [], _, .nil => .nil
  | n :: ns, _, .cons ⟨t, e⟩ r => by subst e; exact .cons n t (ints_vals r)
theorem vals_pair {R : Value → Value → Prop} {S : V → V → Prop} (hRS : ∀ x y u v, RelV x u → RelV y v → R u v → S x y) : ∀ {zs : List V} {out : List Value}, Vals zs out → out.Pairwise R → zs.Pairwise S
  | _, _, .nil, _ => .nil
  | _, _, .cons rx rt, p => by
    rw [List.pairwise_cons] at p
    refine .cons (fun y hy => ?_) (vals_pair hRS rt p.2)
    obtain ⟨i, hi, e⟩ := List.getElem_of_mem hy
    obtain ⟨v, hv, ry⟩ := Vals.get rt (i := i) (x := y) (by rw [List.getElem?_eq_getElem hi, e])
    exact hRS _ _ _ _ rx ry (p.1 v (List.mem_of_getElem? hv))
/-- the tuples of H that a list names, by their numbers: k in each -/
def TupI (K : PySem.W.Frag) (H : Hp) (k : Nat) (f : V → List Int) (x : V) : Prop := ∃ a, x = .ref a ∧ SqT K H a ((f x).map V.int) ∧ (f x).length = k
def rSortT (K : PySem.W.Frag) : List V → Hp → VK → Prop := fun xs H Q => ∃ (p : Addr) (ys : List V) (k : Nat) (f : V → List Int), xs = [.ref p] ∧ SqL K H p ys ∧ 1 ≤ k ∧ (∀ y ∈ ys, TupI K H k f y) ∧
  ∀ l zs, H l = none → zs.Perm ys → zs.Pairwise (fun x y => Tim.lexB (f y) (f x) = false) → Q (.ref l) (upd H l (.lst zs))
theorem call_sortT : CallR X (.builtin "sorted") (rSortT X.K) := by
  intro pins s σ H xs us Q I r h
  obtain ⟨p, ys, k, f, rfl, hq, hk, ht, q⟩ := h
  obtain ⟨u, rfl, rx⟩ := vals1 r
  cases rx
  obtain ⟨its, rv, pl, hz⟩ := I.list hq
  have hlen : its.length = ys.length := by rw [← rv.length]
  have item : ∀ x v, x ∈ ys → RelV x v → ∃ a jts, v = .ref a ∧ IsTup s.heap a jts.toArray ∧ IntsAre jts (f x) ∧ (f x).length = k := by
    intro x v hx rxv
    obtain ⟨a, rfl, sq, hl⟩ := ht x hx
    cases rxv
    obtain ⟨jts, rj, tj, _⟩ := I.tuple sq
    exact ⟨a, jts, rfl, tj, ints_vals rj, hl⟩
  have T : Tups1 s.heap k its := fun v hv => by
    obtain ⟨i, hi, e⟩ := List.getElem_of_mem hv
    have hy : i < ys.length := by omega
    obtain ⟨v', hv', ry⟩ := rv.get (i := i) (x := ys[i]) (by rw [List.getElem?_eq_getElem hy])
    rw [List.getElem?_eq_getElem hi, e] at hv'
    cases hv'
    obtain ⟨a, jts, e1, e2, e3, e4⟩ := item _ _ (List.getElem_mem hy) ry
    exact ⟨a, jts, _, e1, e2, e3, e4⟩
  refine Tim.sorted_any (κ := tuples' true) (rk := Tim.rankBy (fun a b => Tim.lexB (keyOf s.heap a) (keyOf s.heap b)) its) pl.isList (by omega)
    (fun h2 h' kp => ⟨fun Q E hQ => tups_kind hk T h2 kp hQ, tups_cmp T kp⟩) fun h' D c out kp hD hd hp hs => ?_
  obtain ⟨zs, z1, z2⟩ := vals_perm rv hp
  have hzl : zs.length ≤ sizeLine := by rw [z2.length_eq]; omega
  refine ⟨.ref D, _, I.laid (t' := s.toks) kp hD (show ObjOk X.prog X.w _ h' _ (.lst zs) from ⟨hzl, out, c, z1, hd⟩), rfl, q D zs (I.hok.fresh hD) z2 ?_⟩
  have hs' : out.Pairwise (fun u v => u ∈ its ∧ v ∈ its ∧ Tim.lexB (keyOf s.heap v) (keyOf s.heap u) = false) := by
    refine List.Pairwise.imp_of_mem (fun {u v} hu hv huv => ?_) hs
    have mu := hp.mem_iff.mp hu
    have mv := hp.mem_iff.mp hv
    exact ⟨mu, mv, Tim.rank_le (Tim.swo_key (keyOf s.heap)) mv huv⟩
  have zin : ∀ z ∈ zs, z ∈ ys := fun z hz => z2.mem_iff.mp hz
  have zp : zs.Pairwise (fun x y => x ∈ zs ∧ y ∈ zs) := by
    rw [List.pairwise_iff_getElem]
    intro i j hi hj _
    exact ⟨List.getElem_mem hi, List.getElem_mem hj⟩
  have := vals_pair (S := fun x y => x ∈ ys → y ∈ ys → Tim.lexB (f y) (f x) = false) (fun x y u v rx ry huv hx hy => by
    obtain ⟨a, jts, rfl, e2, e3, e4⟩ := item x u hx rx
    obtain ⟨b, kts, rfl, g2, g3, g4⟩ := item y v hy ry
    have := huv.2.2
    rwa [keyOf_tup e2 e3, keyOf_tup g2 g3] at this) z1 hs'
  exact List.Pairwise.imp₂ (fun {x y} (h1 : x ∈ ys → y ∈ ys → Tim.lexB (f y) (f x) = false) (h2 : x ∈ zs ∧ y ∈ zs) => h1 (zin _ h2.1) (zin _ h2.2)) this zp
theorem call_sortTK {K : PySem.W.Frag} (hK : X.K = K) : CallR X (.builtin "sorted") (rSortT K) := by subst hK; exact call_sortT
end
end L2
set_option Elab.async false
set_option linter.all false
set_option maxRecDepth 100000
set_option maxHeartbeats 4000000
namespace L2
open PySem PySem.Spec PyProof.Rows
/-! ### the keys of any dict, one by one: the entries as they stand, whatever the keys are -/
section
variable {prog : Program} {w : World} {A : Around} {E : Value → Shared → Prop} {s : Shared} {it d : Addr} {ep : Nat} {od : Obj} {es : Array DictEntry}
end
end L2
set_option Elab.async false
set_option linter.all false
set_option maxRecDepth 100000
set_option maxHeartbeats 4000000
namespace L2
open PySem PySem.Spec PyProof.Rows
section
variable {X : Cx} {pins : List (Addr × Obj)} {σ : St} {H : Hp} {s : Shared} {d : Addr}
end
/-! ### over the keys of a dict whose keys are tuples -/
section
variable {X : Cx} {tg : Expr}
end
/-! ### let go again -/
section
variable {d D : Addr} {o : Obj} {kvs : List (List Key × V)} {tc : TT} {te : TE} {Q : VK} {rest : St} {H1 : Hp}
end
end L2
set_option Elab.async false
set_option linter.all false
set_option maxRecDepth 100000
set_option maxHeartbeats 4000000
namespace L2
open PySem PySem.Spec PyProof.Rows
/-! ### zip of two tuples -/
section
variable {prog : Program} {w : World} {A : Around} {E : Value → Shared → Prop} {s : Shared}
end
end L2
set_option Elab.async false
set_option linter.all false
set_option maxRecDepth 100000
set_option maxHeartbeats 4000000
namespace L2
open PySem PySem.Spec PyProof.Rows
section
variable {prog : Program} {w : World} {A : Around} {E : Value → Shared → Prop} {s : Shared}
end
section
variable {X : Cx}
end
section
variable {K : PySem.W.Frag} {D : Addr} {xs : List V} {tc : TT} {te : TE} {Q : VK} {rest : St} {H1 : Hp}
end
end L2
set_option Elab.async false
set_option linter.all false
set_option maxRecDepth 100000
set_option maxHeartbeats 4000000
namespace L2
open PySem PySem.Spec PyProof.Rows
section
variable {prog : Program} {w : World} {K : Type} [DecidableEq K] {knd : HeapKind prog w K} {A : Around} {E : Value → Shared → Prop} {s : Shared}
end
section
variable {X : Cx}
end
end L2
set_option Elab.async false
set_option linter.all false
set_option maxRecDepth 100000
set_option maxHeartbeats 4000000
namespace L2
open PySem PySem.Spec PyProof.Rows
/-! ### dicts whose keys are tuples: length, truth, {t: v} -/
section
variable {prog : Program} {w : World} {K : Type} [DecidableEq K] {knd : HeapKind prog w K} {A : Around} {E : Value → Shared → Prop} {s : Shared} {d : Addr} {xs : List (K × Addr × Value)}
end
section
variable {X : Cx} {pos : Pos} {k v a : Expr} {tk tv ta : TE}
end
end L2
namespace L2
open PySem PySem.Spec PyProof.Rows
section
variable {d : Addr} {o : Obj} {kvs : List (List Key × V)} {g : TG} {tb : TS} {D : Ends} {σ : St} {H : Hp}
end
end L2
namespace L2
open PySem PySem.Spec PyProof.Rows
section
variable {X : Cx}
end
end L2
set_option Elab.async false
set_option linter.all false
set_option maxRecDepth 100000
set_option maxHeartbeats 1000000
namespace L2
open PySem PySem.Spec PyProof.Rows PySem.W
/-! ### lambdas: the table of their makers' code -/
section
variable {P : Program} {w : World} {H : Hp} {h h' : Heap} {p : Addr} {ps : Array Value}
theorem Un.tbl3 {fs ex : List Addr} {more : Array Value} {c f : Addr} {o1 o2 : HO} (hp : H p = some (.tbl ps)) (k : ∀ b u, b ≠ p → h.get? b = some u → h'.get? b = some u) (hn : ∃ u, h'.get? p = some u) (hc : H c = none) (hf : H f = none) (sc : h.objs.size ≤ c) (sf : h.objs.size ≤ f) :
    Un fs ex H (upd (upd (upd H p (.tbl (ps ++ more))) c o1) f o2) h h' := by
  have np : ∀ b, H b = none → b ≠ p := fun b n z => by rw [z, hp] at n; cases n
  have at_ : ∀ b u, H b = some u → b ≠ p → (upd (upd (upd H p (.tbl (ps ++ more))) c o1) f o2) b = some u := fun b u e n => by
    rw [upd_ne (ne_of_none e hf), upd_ne (ne_of_none e hc), upd_ne n]
    exact e
  have lt : ∀ b u, h.get? b = some u → b ≠ c ∧ b ≠ f := fun b u e => ⟨Nat.ne_of_lt (Nat.lt_of_lt_of_le (Heap.lt_size e) sc), Nat.ne_of_lt (Nat.lt_of_lt_of_le (Heap.lt_size e) sf)⟩
  refine ⟨fun b u q n _ _ => k b u (np b n) q, fun b u q n _ _ => ⟨u.slots, k b u (np b n) q⟩, fun b u q n _ => ?_, fun b u q _ => ?_, fun b xs q => at_ b _ q fun z => ?_, fun b u xs q => at_ b _ q fun z => ?_, fun b qs q => ?_⟩
  · rw [upd_ne (lt b u q).2, upd_ne (lt b u q).1, upd_ne (np b n)]; exact n
  · by_cases z : b = p
    · rw [z]; exact hn
    · exact ⟨u, k b u z q⟩
  · rw [z, hp] at q; cases q
  · rw [z, hp] at q; cases q
  · by_cases z : b = p
    · subst z
      rw [hp] at q
      cases q
      exact ⟨more, by rw [upd_ne (ne_of_none hp hf), upd_ne (ne_of_none hp hc), upd_same]⟩
    · exact ⟨#[], by rw [at_ b _ q z]; simp⟩
theorem HOk.tbl3 {more : Array Value} {c f : Addr} {o1 o2 : HO} (ok : HOk P w H h) (hp : H p = some (.tbl ps)) (k : ∀ b u, b ≠ p → h.get? b = some u → h'.get? b = some u) (new : h'.get? p = some (tabObj (ps ++ more))) (hc : H c = none) (hf : H f = none) (ncf : c ≠ f)
    (n1 : ObjOk P w (upd (upd (upd H p (.tbl (ps ++ more))) c o1) f o2) h' c o1) (n2 : ObjOk P w (upd (upd (upd H p (.tbl (ps ++ more))) c o1) f o2) h' f o2) : HOk P w (upd (upd (upd H p (.tbl (ps ++ more))) c o1) f o2) h' := fun b u q => by
  by_cases hbf : b = f
  · subst hbf; rw [upd_same] at q; cases q; exact n2
  rw [upd_ne hbf] at q
  by_cases hbc : b = c
  · subst hbc; rw [upd_same] at q; cases q; exact n1
  rw [upd_ne hbc] at q
  by_cases hb : b = p
  · subst hb; rw [upd_same] at q; cases q; exact new
  · rw [upd_ne hb] at q
    have at_ : ∀ d u, H d = some u → d ≠ p → (upd (upd (upd H p (.tbl (ps ++ more))) c o1) f o2) d = some u := fun d u e n => by
      rw [upd_ne (ne_of_none e hf), upd_ne (ne_of_none e hc), upd_ne n]
      exact e
    refine (ok b u q).stay (fun d v hd r => k d v ?_ r) (fun d r => at_ d _ r fun z => ?_) fun d xs r => at_ d _ r fun z => ?_
    · rcases hd with rfl | hd
      · exact hb
      · intro z; rw [z, hp] at hd; cases hd
    · rw [z, hp] at r; cases r
    · rw [z, hp] at r; cases r
end
/-- the builtins' module -/
def Bm (mg : Str → Option Value) (h : Heap) : Prop := ∃ bm ob, mg "__builtins__" = some (.ref bm) ∧ bm ≠ builtinsNs ∧ h.get? bm = some ob ∧ ob.cls = .type "module" ∧ ob.dict = some builtinsNs ∧ ob.data = .plain
abbrev CdO (c : Addr) (qual : Str) : HO := .ext fun h => h.CodeRec (.ref c) qual
abbrev FnO (f : Addr) (o : Obj) : HO := .ext fun h => h.get? f = some o
/-- the code of the lambda at pos: not made yet, or made -/
def LamT (H : Hp) (p : Addr) (pos : Pos) (qual : Str) : Prop := H p = some (.tbl #[]) ∨ ∃ c, H p = some (.tbl #[rawInt pos.line, rawInt pos.col, .ref c]) ∧ H c = some (CdO c qual)
/-- a lambda without captured names -/
def LamF (H : Hp) (f : Addr) (qual : Str) (params : Arguments) (body : Expr) (scope : Scope) (pm : Value) : Prop := ∃ c ctv, H f = some (FnO f (kla_obj "<lambda>" qual params body scope [] pm c ctv)) ∧ H c = some (CdO c qual)
section
variable {X : Cx}
def tLam (p : Addr) (pos : Pos) (qual : Str) (params : Arguments) (body : Expr) (scope : Scope) (pm : Value) : TE := fun _ H Q => LamT H p pos qual ∧ ∀ (f : Addr) (H' : Hp), H f = none → LamF H' f qual params body scope pm → LamT H' p pos qual → Kp p H H' → Q (.ref f) H'
theorem cd_ok {P : Program} {w : World} {H : Hp} {h : Heap} {c : Addr} {qual : Str} (r : h.CodeRec (.ref c) qual) : ObjOk P w H h c (CdO c qual) := by
  obtain ⟨c', o, vs, t, e, g, d⟩ := id r
  cases e
  exact ⟨r, ⟨o, g⟩, fun h1 h2 ⟨c2, o2, vs2, t2, e2, g2, d2⟩ kp => by cases e2; exact ⟨_, o2, vs2, t2, rfl, kp o2 g2, d2⟩⟩
theorem fn_ok {P : Program} {w : World} {H : Hp} {h : Heap} {f : Addr} {o : Obj} (e : h.get? f = some o) : ObjOk P w H h f (FnO f o) := ⟨e, ⟨o, e⟩, fun h1 h2 e1 kp => kp o e1⟩
theorem pe_lam {params : Arguments} {body : Expr} {scope : Scope} {pos : Pos} {c p : Addr} (BM : Bm X.mg X.base) (hcode : X.env.code = .ref c) (hcd : codeHdIn X.K c p = true) (hg : X.env.globals = mainGlobals := by rfl) (hcl : closureFor scope X.env = pure [] := by rfl) (hdef : defaultsOf params X.env = ([], []) := by rfl) :
    PE X (.Lambda params body scope pos) (tLam p pos (X.env.qual ++ "<lambda>") params body scope ((X.mg "__name__").getD .none)) := by
  intro pins s σ H Q I h
  obtain ⟨lt, q⟩ := h
  have C : CodeHd s.heap c p := codeHd_of_K I.kIn hcd
  have hns : s.heap.Ns mainGlobals X.mg := I.ok.mod.glob.keeps I.bk
  obtain ⟨bm, ob, b1, b2, b3, b4, b5, b6⟩ := BM
  have b3' := I.bk _ _ b3
  have tr : ∃ ps, H p = some (.tbl ps) := by rcases lt with e | ⟨_, e, _⟩ <;> exact ⟨_, e⟩
  obtain ⟨ps0, hp0⟩ := tr
  have hP0 : s.heap.get? p = some (tabObj ps0) := (show ObjOk X.prog X.w H s.heap p (.tbl ps0) from I.hok p _ hp0)
  have hgP : mainGlobals ≠ p := fun z => by
    obtain ⟨o, es, ep, e, hd, _⟩ := hns
    rw [z, hP0] at e; cases e; cases hd
  have hbP : bm ≠ p := fun z => by rw [z, hP0] at b3'; cases b3'; cases b4
  have hbG : bm ≠ mainGlobals := fun z => by
    obtain ⟨o, es, ep, e, hd, _⟩ := hns
    rw [z, e] at b3'; cases b3'; rw [hd] at b6; cases b6
  have hb : s.heap.BuiltinsAt X.mg p := ⟨bm, ob, b1, b2, hbG, hbP, b3', b4, b5, b6⟩
  refine kla_eval hdef ?_
  rcases lt with hp | ⟨c0, hp, hc0⟩
  · have hP : s.heap.get? p = some (tabObj #[]) := (show ObjOk X.prog X.w H s.heap p (.tbl #[]) from I.hok p _ hp)
    refine kla_makeFunction hcl hg hns hcode C hP True.intro rfl hgP hb fun c' ctv h' tk hx hge hlt hrec htb => ?_
    have hsz : s.heap.objs.size ≤ h'.objs.size := Nat.le_trans hge (Nat.le_of_lt hlt)
    have nc : H c' = none := I.hok.fresh hge
    have nf : H h'.objs.size = none := I.hok.fresh hsz
    have ncf : c' ≠ h'.objs.size := Nat.ne_of_lt hlt
    have kp : ∀ b u, b ≠ p → s.heap.get? b = some u → (h'.push (kla_obj "<lambda>" (X.env.qual ++ "<lambda>") params body scope [] ((X.mg "__name__").getD .none) c' ctv)).get? b = some u := fun b u n e => Heap.get?_push_of_some _ (hx b u n e)
    have htb' := Heap.get?_push_of_some (kla_obj "<lambda>" (X.env.qual ++ "<lambda>") params body scope [] ((X.mg "__name__").getD .none) c' ctv) htb
    have hrec' := hrec.push (kla_obj "<lambda>" (X.env.qual ++ "<lambda>") params body scope [] ((X.mg "__name__").getD .none) c' ctv)
    have fo : (h'.push (kla_obj "<lambda>" (X.env.qual ++ "<lambda>") params body scope [] ((X.mg "__name__").getD .none) c' ctv)).get? h'.objs.size = some (kla_obj "<lambda>" (X.env.qual ++ "<lambda>") params body scope [] ((X.mg "__name__").getD .none) c' ctv) := Heap.get?_push_size _ rfl
    have I' := I.un (t' := tk) (Un.tbl3 (fs := X.fs) (ex := []) (o1 := CdO c' (X.env.qual ++ "<lambda>")) (o2 := FnO h'.objs.size (kla_obj "<lambda>" (X.env.qual ++ "<lambda>") params body scope [] ((X.mg "__name__").getD .none) c' ctv)) hp kp ⟨_, htb'⟩ nc nf hge hsz)
      (HOk.tbl3 I.hok hp kp htb' nc nf ncf (cd_ok hrec') (fn_ok fo))
    refine ⟨.ref h'.objs.size, _, I', rfl, q _ _ nf ⟨c', ctv, upd_same, ?_⟩ (.inr ⟨c', ?_, ?_⟩) fun b u e n => ?_⟩
    · rw [upd_ne ncf, upd_same]
    · have npc : p ≠ c' := ne_of_none hp nc
      have npf : p ≠ h'.objs.size := ne_of_none hp nf
      rw [upd_ne npf, upd_ne npc, upd_same]
      simp
    · rw [upd_ne ncf, upd_same]
    · rw [upd_ne (ne_of_none e nf), upd_ne (ne_of_none e nc), upd_ne n]
      exact e
  · have hP : s.heap.get? p = some (tabObj #[rawInt pos.line, rawInt pos.col, .ref c0]) := (show ObjOk X.prog X.w H s.heap p (.tbl _) from I.hok p _ hp)
    refine kla_makeFunctionHit hcl hg hns hcode C hP (cv := .ref c0) trivial (by simp [codeAmong, rawInt]) hb fun ctv h' tk hk hsz => ?_
    have nf : H h'.objs.size = none := I.hok.fresh hsz
    have fo : (h'.push (kla_obj "<lambda>" (X.env.qual ++ "<lambda>") params body scope [] ((X.mg "__name__").getD .none) c0 ctv)).get? h'.objs.size = some (kla_obj "<lambda>" (X.env.qual ++ "<lambda>") params body scope [] ((X.mg "__name__").getD .none) c0 ctv) := Heap.get?_push_size _ rfl
    have I' := I.laid (t' := tk) (o := FnO h'.objs.size (kla_obj "<lambda>" (X.env.qual ++ "<lambda>") params body scope [] ((X.mg "__name__").getD .none) c0 ctv)) (fun b u e => Heap.get?_push_of_some _ (hk b u e)) hsz (fn_ok fo)
    refine ⟨.ref h'.objs.size, _, I', rfl, q _ _ nf ⟨c0, ctv, upd_same, ?_⟩ (.inr ⟨c0, ?_, ?_⟩) fun b u e n => ?_⟩
    · rw [upd_ne (ne_of_none hc0 nf)]; exact hc0
    · rw [upd_ne (ne_of_none hp nf)]; exact hp
    · rw [upd_ne (ne_of_none hc0 nf)]; exact hc0
    · rw [upd_ne (ne_of_none e nf)]; exact e
end
end L2
set_option Elab.async false
set_option linter.all false
set_option maxRecDepth 100000
set_option maxHeartbeats 1000000
namespace L2
open PySem PySem.Spec PyProof.Rows PySem.W
/-! ### a lambda called -/
/-- what a lambda's body does, at any entry -/
structure LamOk (P : Program) (w : World) (K : PySem.W.Frag) (mg : Str → Option Value) (base : Heap) (k : Nat) (N ps : List Str) (qual : Str) (params : Arguments) (body : Expr) (scope : Scope) (sp : List V → Hp → VK → Prop) : Prop where
  sc : FnScope N ps scope
  bind : ∀ (pm ctv : Value) (c : Addr) (us : List Value), us.length = ps.length → bindArgs (kla_fn "<lambda>" qual params body scope [] pm (.ref c) ctv) ⟨us, []⟩ = pure (ps.zip us)
  len : ∀ vs H Q, sp vs H Q → vs.length = ps.length
  run : ∀ (f c : Addr) (A : Around) (outer : List Env) (s : Shared) (H : Hp) (vs : List V) (Q : VK), Room k (A.deeper (envOfC qual scope s.heap.objs.size f (.ref c))) → sp vs H Q →
    ∃ t, PE (cxOf CX0 P w K mg base N qual scope f (.ref c) A outer s H E0).nox body t ∧ t (start N vs) H Q
theorem lam_run {P : Program} {w : World} {K : PySem.W.Frag} {mg : Str → Option Value} {base : Heap} {k : Nat} {N ps : List Str} {qual : Str} {params : Arguments} {body : Expr} {scope : Scope} {sp : List V → Hp → VK → Prop} {pm : Value} {f : Addr} {A : Around} {outer : List Env} {s : Shared} {H : Hp} {us : List Value} {vs : List V} {Q : VK}
    (L : LamOk P w K mg base k N ps qual params body scope sp) (hr : Room (k + 1) A) (e0 : Env0 P w K mg base A outer s H) (F : LamF H f qual params body scope pm) (r : Vals vs us) (hsp : sp vs H Q) :
    codeAny (model P w) A (.call (.ref f) ⟨us, []⟩) (CR CX0 outer P w H s Q E0) s := by
  obtain ⟨c, ctv, hf, hc⟩ := F
  have hl := L.len _ _ _ hsp
  have S := L.sc
  have lim : s.heap.NoLimit := e0.mod.nolimit.keeps fun b o e => (e0.bs b o e).1
  have fo : s.heap.get? f = some (kla_obj "<lambda>" qual params body scope [] pm c ctv) := (e0.hok f _ hf).1
  have cd : s.heap.CodeRec (.ref c) qual := (e0.hok c _ hc).1
  have hkind : ∀ y ∈ ps.zip us, scope.names.lookup y.1 = some .local ∨ (scope.names.lookup y.1 = some .cell ∧ ((cellsFrom (s.heap.objs.size + 1) scope.names []).lookup y.1).isSome = true) := fun ⟨n, v⟩ hy => by
    rcases S.par n (List.of_mem_zip hy).1 with q | q
    · exact .inl q
    · exact .inr ⟨q, PySem.W.cellsFrom_some _ _ _ (.inl q)⟩
  refine kla_callFunE hr.depth fo rfl S.co S.gen rfl cd ?_
  have hb := L.bind pm ctv c us (by rw [← r.length]; exact hl)
  refine wpAny_of_eq hb ?_
  refine wpAny_newFunctionEnv_cells S.kind hkind fun env he s1 x => ?_
  subst he
  refine ⟨lim.keeps x.toInCall.keep, kla_codeExpr ?_⟩
  obtain ⟨t, ht, hq⟩ := L.run f c A outer s H vs Q (hr.deeper _) hsp
  have I : Inv (cxOf CX0 P w K mg base N qual scope f (.ref c) A outer s H E0) [] (start N vs) H s1 := inv_start S hr.hd e0 hl r x
  refine wpAny_mono (ht [] s1 (start N vs) H _ (I.wish _) hq) (fun u s' hs => ?_) fun e s' hs => hs.elim
  obtain ⟨v, H', J, rv, q⟩ := hs
  exact ⟨v, H', J.os, J.bare, J.base, J.hok, rv, q⟩
section
variable {X : Cx} {k : Nat} {N ps : List Str} {qual : Str} {params : Arguments} {body : Expr} {scope : Scope} {sp : List V → Hp → VK → Prop} {pm : Value} {f : Addr}
theorem LamF.same {H H' : Hp} (F : LamF H f qual params body scope pm) (s : Same H H') : LamF H' f qual params body scope pm := by
  obtain ⟨c, ctv, a, b⟩ := F
  exact ⟨c, ctv, s _ _ a, s _ _ b⟩
end
/-! ### the order of keys -/
/-! ### min(list, key=lambda) -/
section
variable {X : Cx} {pins : List (Addr × Obj)} {σ : St} {H : Hp} {q l I S : Addr} {xs : List V}
theorem FpOk.of {b : Addr} {H' : Hp} (h : FpOk X pins H b) (n : H' b = none) : FpOk X pins H' b := ⟨n, h.2⟩
theorem ints_of {H1 : Hp} {s : Shared} {t : Addr} {ns : List Int} (J : Inv X pins σ H1 s) (h : H1 t = some (.tup (ns.map V.int))) : ∃ its : List Value, IsTup s.heap t its.toArray ∧ IntsAre its.toArray.toList ns := by
  obtain ⟨its, r, p, _⟩ := J.tuple (SqT.of h)
  exact ⟨its, p, intsAre_of r⟩
end
section
variable {X : Cx} {a : Expr} {ta : TA} {tk : TE} {p pos kp lpos : Pos} {k : Nat} {N ps : List Str} {qual : Str} {params : Arguments} {body : Expr} {scope : Scope} {sp : List V → Hp → VK → Prop} {pm : Value}
end
end L2
set_option Elab.async false
set_option linter.all false
set_option maxRecDepth 100000
set_option maxHeartbeats 1000000
namespace L2
open PySem PySem.Spec PyProof.Rows PySem.W
/-! ### a def that makes lambdas, and the law's walk over it -/
structure FunL (K : PySem.W.Frag) (x qual : Str) (st : Stmt) (p : Addr) (f : Addr) (fd : FuncData) : Prop where
  ex : ∃ (oc : Value) (od : Option Addr) (kV doc pm : Value) (an : Option Addr) (c : Addr) (ct : Value) (osl : Array (Option Value)),
    fd = PySem.W.fnOf x qual (defArgs st) (defBody st) (defScope st) .none kV doc pm an (.ref c) ct ∧ K.lookup f = some ⟨oc, od, .func fd, osl⟩ ∧ PySem.W.codeIn K (.ref c) qual = true ∧ codeHdIn K c p = true
  kp : PySem.W.keepIn K (.ref f) = true
section
variable {P : Program} {w : World} {K : PySem.W.Frag} {mg : Str → Option Value} {base : Heap}
theorem FunL.fun {x qual : Str} {st : Stmt} {p f : Addr} {fd : FuncData} (F : FunL K x qual st p f fd) : Fun K x qual st f fd := by
  obtain ⟨oc, od, kV, doc, pm, an, c, ct, osl, e, l, cd, _⟩ := F.ex
  exact ⟨⟨oc, od, kV, doc, pm, an, .ref c, ct, osl, e, l, cd⟩, F.kp⟩
theorem FunL.ok {x qual : Str} {st : Stmt} {p f : Addr} {fd : FuncData} {N ps : List Str} {k : Nat} {sp : Sp} (F : FunL K x qual st p f fd) (S : FnScope N ps (defScope st)) (len : ∀ vs H Q E, sp vs H Q E → vs.length = ps.length)
    (hbody : ∀ (c : Addr) (A : Around) (outer : List Env) (s : Shared) (H : Hp) (vs : List V) (Q : VK) (E : XK), codeHdIn K c p = true → Room k (A.deeper (envOfC qual (defScope st) s.heap.objs.size f (.ref c))) → sp vs H Q E →
      ∃ t, PSs (cxOf CX0 P w K mg base N qual (defScope st) f (.ref c) A outer s H E).nox (defBody st) t ∧ t { nx := fun _ H' => Q .non H', rt := Q } (start N vs) H) : FnOk P w K mg base CX0 (k + 1) f fd ps sp := by
  obtain ⟨oc, od, kV, doc, pm, an, c, ct, osl, rfl, lk, hcd, hh⟩ := F.ex
  refine fn_of lk hcd S len fun A outer s H vs Q E hr hsp => ?_
  obtain ⟨t, h, q⟩ := hbody c A outer s H vs Q E hh hr hsp
  exact ⟨t, h.nox, q⟩
theorem funL_mk {x qual : Str} {st : Stmt} {p f c : Addr} {oc : Value} {od an : Option Addr} {osl : Array (Option Value)} {kV doc pm ct : Value} (l : K.lookup f = some ⟨oc, od, .func (PySem.W.fnOf x qual (defArgs st) (defBody st) (defScope st) .none kV doc pm an (.ref c) ct), osl⟩)
    (cd : PySem.W.codeIn K (.ref c) qual = true) (k : PySem.W.keepIn K (.ref f) = true) (h : codeHdIn K c p = true) : FunL K x qual st p f (PySem.W.fnOf x qual (defArgs st) (defBody st) (defScope st) .none kV doc pm an (.ref c) ct) := ⟨⟨oc, od, kV, doc, pm, an, c, ct, osl, rfl, l, cd, h⟩, k⟩
end
/-- nothing is tracked but the script and the table -/
def OnlyL (p : Addr) (H : Hp) : Prop := ∀ b, H b = none ∨ (∃ o xs, H b = some (.frz o (.lst xs))) ∨ (b = p ∧ H b = some (.tbl #[]))
theorem law_callL {P : Program} {w : World} {K : PySem.W.Frag} {mg mb : Str → Option Value} {CX : CXT} {k : Nat} {fa a p : Addr} {fd : FuncData} {x : Str} {sp : Sp} {s₁ : Shared} {vs : List Value} {ns : List Int}
    (KX : K.In s₁.heap) (hns : s₁.heap.Ns mainGlobals mg) (hb : s₁.heap.Ns builtinsNs mb) (hbb : ∀ x : Str, x ≠ "__name__" → mb x = bootBuiltins x) (hlim : s₁.heap.NoLimit) (hbm : Bm mg s₁.heap) (hg : s₁.gens = #[])
    (hp : s₁.heap.get? p = some (tabObj #[])) (hc : ∃ c, codeHdIn K c p = true)
    (ha : s₁.heap.get? a = some { cls := .type "list", data := .seq vs.toArray }) (hi : IntsAre vs ns) (hl : ns.length ≤ sizeLine) (hr : Room k callerA) (hKp : K.lookup p = none)
    (F : ∀ base : Heap, K.In base → base.Ns mainGlobals mg → Bm mg base → FnOk P w K mg base CX k fa fd [x] sp) (hbind : ∀ (s : Shared) (u : Value), BindsTo s fd ⟨[u], []⟩ [(x, u)])
    (hsp : ∀ H : Hp, OnlyL p H → SqL K H a (ns.map V.int) → H p = some (.tbl #[]) → sp [.ref a] H (fun v _ => v = .bl true) fun _ _ _ => False)
    (hCX : ∀ H e s', CX [] H s₁ (fun _ _ _ => False) e s' → False) :
    codeAny (model P w) callerA (.call (.ref fa) ⟨[.ref a], []⟩) (fun r s' => r = .ok (.ret (.bool true)) ∧ OldK s₁.heap s'.heap ∧ s'.os = s₁.os ∧ AllBare s'.gens) s₁ := by
  have rv := vals_ints hi
  have lenV := hi.length
  have npa : p ≠ a := fun z => by rw [z, ha] at hp; cases hp
  obtain ⟨c, hc⟩ := hc
  have CT : isCodeTable s₁.heap p := ((codeHd_of_K KX hc).tab hp).isCodeTable
  have core : ∀ H : Hp, OnlyL p H → SqL K H a (ns.map V.int) → H p = some (.tbl #[]) → HOk P w H s₁.heap → (∀ b, H b ≠ none → b = a ∨ b = p) → (H a ≠ none → K.lookup a = none) →
      codeAny (model P w) callerA (.call (.ref fa) ⟨[.ref a], []⟩) (fun r s' => r = .ok (.ret (.bool true)) ∧ OldK s₁.heap s'.heap ∧ s'.os = s₁.os ∧ AllBare s'.gens) s₁ := by
    intro H hO hS hHp hok hA hK
    have base_of : ∀ {b : Addr} {o : Obj}, s₁.heap.get? b = some o → H b = none → (hidT s₁.heap H).get? b = some o := fun e n => hidT_get e n
    have noO : ∀ {b : Addr} {o : Obj}, s₁.heap.get? b = some o → (∀ vs n, o.data ≠ .seq vs n) → (∀ vs, o.data ≠ .fields vs) → H b = none := fun {b o} e d1 d2 => by
      cases q : H b with
      | none => rfl
      | some u =>
        rcases hA b (by rw [q]; simp) with e' | e'
        · subst e'
          rw [ha] at e; cases e
          exact absurd rfl (d1 _ _)
        · subst e'
          rw [hp] at e; cases e
          exact absurd rfl (d2 _)
    have noA : ∀ {b : Addr} {o : Obj} {es : Array DictEntry} {ep : Nat}, s₁.heap.get? b = some o → o.data = .dict es ep → H b = none := fun {b o es ep} e d => noO e (fun _ _ z => by rw [d] at z; cases z) (fun _ z => by rw [d] at z; cases z)
    have nsK : ∀ {b : Addr} {m : Str → Option Value}, s₁.heap.Ns b m → (hidT s₁.heap H).Ns b m := fun {b m} ⟨o, es, ep, e, d, r⟩ => ⟨o, es, ep, base_of e (noA e d), d, r⟩
    have hKb : K.In (hidT s₁.heap H) := fun b o e => base_of (KX b o e) (by
      cases q : H b with
      | none => rfl
      | some u =>
        rcases hA b (by rw [q]; simp) with e' | e'
        · subst e'
          rw [hK (by rw [q]; simp)] at e; cases e
        · subst e'
          rw [hKp] at e; cases e)
    have hM : Mod K mg (hidT s₁.heap H) := ⟨hKb, nsK hns, ⟨mb, nsK hb, hbb⟩, let ⟨mc, h1, h2⟩ := hlim; ⟨mc, nsK h1, h2⟩⟩
    have hBm : Bm mg (hidT s₁.heap H) := by
      obtain ⟨bm, ob, b1, b2, b3, b4, b5, b6⟩ := hbm
      exact ⟨bm, ob, b1, b2, base_of b3 (noO b3 (fun _ _ z => by rw [b6] at z; cases z) (fun _ z => by rw [b6] at z; cases z)), b4, b5, b6⟩
    have e0 : Env0 P w K mg (hidT s₁.heap H) callerA [] s₁ H := ⟨rfl, hM, fun b o e => of_hidT e, Nat.le_of_eq (hidT_size _ _), trivial, fun b hb => absurd (show b ∈ ([] : List Addr) from hb) (by simp), hok, .of_eq hg⟩
    refine codeAny_mono ((F _ hKb (nsK hns) hBm).run callerA [] s₁ H ⟨[.ref a], []⟩ [.ref a] [.ref a] _ _ hr e0 (hbind s₁ (.ref a)) (.cons rfl .nil) (hsp H hO hS hHp)) fun r s' h => ?_
    cases r with
    | error e => exact (hCX H e s' h).elim
    | ok fl =>
      cases fl with
      | next => exact False.elim h
      | brk => exact False.elim h
      | cont => exact False.elim h
      | ret u =>
        obtain ⟨v, H', os, bare, un, hok', r', q⟩ := h
        have q' : v = .bl true := q
        subst q'
        obtain rfl : u = Value.bool true := r'
        have each : ∀ b o, s₁.heap.get? b = some o → s'.heap.get? b = some o ∨ (b = p ∧ ∃ more, s'.heap.get? b = some (tabObj (#[] ++ more))) := fun b o e => by
          cases q : H b with
          | none => exact .inl (un.keep b o e q (by intro z; exact absurd (show b ∈ ([] : List Addr) from z) (by simp)) (by simp))
          | some u =>
            rcases hO b with z | ⟨ob, xs, z⟩ | ⟨z1, z⟩
            · rw [q] at z; cases z
            · have z2 := un.frzs b ob _ z
              obtain ⟨e1, _⟩ := hok b _ z
              obtain ⟨e2, _⟩ := hok' b _ z2
              rw [e] at e1; cases e1
              exact .inl e2
            · obtain ⟨more, z2⟩ := un.tbls b _ z
              exact .inr ⟨z1, more, hok' b _ z2⟩
        refine ⟨rfl, ⟨fun b o e => ?_, fun b o e => ?_⟩, os, bare⟩
        · rcases each b o e with z | ⟨rfl, more, z⟩
          · exact .inl z
          · rw [hp] at e
            cases e
            exact .inr (.inl ⟨CT, rfl, #[], more, rfl, z⟩)
        · rcases each b o e with z | ⟨rfl, more, z⟩
          · exact ⟨_, z⟩
          · exact ⟨_, z⟩
  cases hk : K.lookup a with
  | some o =>
    have e := KX a o hk
    rw [ha] at e
    cases e
    refine core (fun b => if b = p then some (.tbl #[]) else none) (fun b => ?_) (.inr ⟨_, vs.toArray, _, hk, rfl, rfl, rfl, by rw [List.size_toArray, lenV]; exact hl, by simpa using rv⟩) (if_pos rfl) (fun b u z => ?_) (fun b z => ?_) fun z => absurd (if_neg (Ne.symm npa)) z
    · by_cases hb : b = p
      · exact .inr (.inr ⟨hb, if_pos hb⟩)
      · exact .inl (if_neg hb)
    · by_cases hb : b = p
      · have z' := (if_pos hb).symm.trans z
        cases z'
        subst hb
        exact hp
      · have z' := (if_neg hb).symm.trans z
        cases z'
    · by_cases hb : b = p
      · exact .inr hb
      · exact absurd (if_neg hb) z
  | none =>
    refine core (fun b => if b = p then some (.tbl #[]) else if b = a then some (.frz { cls := .type "list", data := .seq vs.toArray } (.lst (ns.map V.int))) else none) (fun b => ?_) (.inl (.inr ⟨{ cls := .type "list", data := .seq vs.toArray }, (if_neg (Ne.symm npa)).trans (if_pos rfl)⟩)) (if_pos rfl) (fun b u z => ?_) (fun b z => ?_) fun _ => hk
    · by_cases hb : b = p
      · exact .inr (.inr ⟨hb, if_pos hb⟩)
      · by_cases hb2 : b = a
        · exact .inr (.inl ⟨_, _, (if_neg hb).trans (if_pos hb2)⟩)
        · exact .inl ((if_neg hb).trans (if_neg hb2))
    · by_cases hb : b = p
      · have z' := (if_pos hb).symm.trans z
        cases z'
        subst hb
        exact hp
      · have z := (if_neg hb).symm.trans z
        by_cases hb2 : b = a
        · have z' := (if_pos hb2).symm.trans z
          cases z'
          subst hb2
          exact ⟨ha, by rw [List.length_map]; exact hl, vs, _, rv, ha⟩
        · have z' := (if_neg hb2).symm.trans z
          cases z'
    · by_cases hb : b = p
      · exact .inr hb
      · by_cases hb2 : b = a
        · exact .inl hb2
        · exact absurd ((if_neg hb).trans (if_neg hb2)) z
theorem walk_ofL {l : PySem.W.OpenLaw} {n k : Nat} {q : Program} {loose : List Str} {XP : (Str → Option Value) → Heap → Prop} {YP : World → Heap → Prop} {d : DefRec} {K : Params → PySem.W.Frag} {CX : World → CXT} {sp : World → Sp} {x : Str} {p : Addr}
    (hn : l.most = some n) (hn2 : n ≤ sizeLine) (hdf : d.params.defaults = []) (hr : Room k callerA)
    (hY : ∀ (w : World) (h : Heap), YP w h → (K w.params).In h) (hT : ∀ (w : World) (h : Heap), YP w h → h.get? p = some (tabObj #[]))
    (F : ∀ (w : World) (mg : Str → Option Value) (fa : Addr) (h : Heap), (K w.params).In h → h.Ns mainGlobals mg → mg d.name = some (.ref fa) →
      ((K w.params).lookup p = none ∧ ∃ c, codeHdIn (K w.params) c p = true) ∧ ∃ fd : FuncData, (∀ (s : Shared) (u : Value), BindsTo s fd ⟨[u], []⟩ [(x, u)]) ∧
        ∀ base : Heap, (K w.params).In base → base.Ns mainGlobals mg → Bm mg base → FnOk l.prog w (K w.params) mg base (CX w) k fa fd [x] (sp w))
    (hsp : ∀ (w : World) (H : Hp) (a : Addr) (ns : List Int), ns.length ≤ n → OnlyL p H → SqL (K w.params) H a (ns.map V.int) → H p = some (.tbl #[]) → sp w [.ref a] H (fun v _ => v = .bl true) fun _ _ _ => False)
    (hCX : ∀ (w : World) (H : Hp) (s : Shared) (e : Value) (s' : Shared), CX w [] H s (fun _ _ _ => False) e s' → False) :
    PySem.W.WalkO q loose XP YP l.row.toRowW d [] (fun f vs => PySem.call f vs) := by
  refine Att.attach_call hn hdf fun w s₀ s₁ mg mb fa o pm cd doc a vs ns G Y ho hd hcd hmg hobj hints hlen hg => ?_
  have KX := hY w _ Y
  obtain ⟨⟨kp, hc⟩, fd, hb, hF⟩ := F w mg fa _ KX G.T.g hmg
  exact law_callL KX G.T.g G.T.b G.T.builtins G.T.nolimit G.T.bmain hg (hT w _ Y) hc hobj hints (Nat.le_trans hlen hn2) hr kp hF hb (fun H hO hS hH => hsp w H a ns hlen hO hS hH) fun H e s' => hCX w H s₁ e s'
end L2
set_option Elab.async false
set_option linter.all false
set_option maxRecDepth 100000
set_option maxHeartbeats 1000000
namespace L2
open PySem PySem.Spec PyProof.Rows PySem.W
/-! ### sorted(list, key=lambda), the keys tuples of numbers -/
section
variable {X : Cx} {pins : List (Addr × Obj)} {σ : St} {H : Hp} {q l : Addr} {xs : List V}
/-- an untracked record of ours is taken up as a list -/
theorem Inv.takeL {s : Shared} {D : Addr} {zs : List V} {out : List Value} {c : Nat} (I : Inv X pins σ H s) (f : FpOk X pins H D) (e : s.heap.get? D = some (seqObj "list" out.toArray c)) (hz : zs.length ≤ sizeLine) (rv : Vals zs out) : Inv X pins σ (upd H D (.lst zs)) s := by
  have nit : ∀ b u, H b = some u → b ≠ D := fun b u e z => by rw [z, f.1] at e; cases e
  have at_ : ∀ b u, H b = some u → upd H D (.lst zs) b = some u := fun b u e => by rw [upd_ne (nit b u e)]; exact e
  refine I.step (g' := s.gens) (d' := s.drawn) (t' := s.toks) (h' := s.heap) (ch := [D]) (fun b hb => ?_) (fun b o _ _ _ e _ => e) (fun b o _ _ _ e _ => ⟨o.slots, e⟩) (fun b o hc _ n => ?_)
    (fun b o _ e => ⟨o, e⟩) (fun b u e => at_ b _ e) (fun b o u e => at_ b _ e) (fun b ps e => ⟨#[], by rw [at_ b _ e]; simp⟩) (fun m hm => hm) (fun b u e' => ?_) I.bare
  · have e : b = D := by simpa using hb
    subst e
    exact ⟨f.2.2.2.1, f.2.1, f.2.2.2.2.1, f.2.2.2.2.2⟩
  · rw [upd_ne (fun z => hc (by simp [z]))]; exact n
  · by_cases hb : b = D
    · subst hb
      rw [upd_same] at e'
      cases e'
      exact ⟨hz, out, c, rv, e⟩
    · rw [upd_ne hb] at e'
      exact (I.hok b u e').stay (fun c v _ q => q) (fun d r => at_ d _ r) fun d xs r => at_ d _ r
theorem perm_map {α β : Type} {g : α → β} {l : List α} {out : List β} (h : out.Perm (l.map g)) : ∃ m : List α, m.Perm l ∧ out = m.map g := by
  generalize e : l.map g = k at h
  induction h generalizing l with
  | nil => exact ⟨[], by rw [List.map_eq_nil_iff.mp e], rfl⟩
  | @cons x a b p ih =>
    cases l with
    | nil => cases e
    | cons y l =>
      rw [List.map_cons] at e
      injection e with e1 e2
      obtain ⟨m, h1, h2⟩ := ih e2
      exact ⟨y :: m, h1.cons y, by rw [List.map_cons, e1, h2]⟩
  | swap x y a =>
    match l, e with
    | u :: v :: l, e =>
      rw [List.map_cons, List.map_cons] at e
      injection e with e1 e2
      injection e2 with e2 e3
      exact ⟨v :: u :: l, .swap u v l, by rw [List.map_cons, List.map_cons, e1, e2, e3]⟩
  | trans p1 p2 ih1 ih2 =>
    obtain ⟨m, h1, h2⟩ := ih2 e
    obtain ⟨m', h3, h4⟩ := ih1 h2.symm
    exact ⟨m', h3.trans h1, h4⟩
/-- what stands while the keys are made -/
structure KeyI (X : Cx) (pins : List (Addr × Obj)) (σ : St) (H : Hp) (D kS : Addr) (e1 : Nat) (kf : Nat → List Int) (i : Nat) (s : Shared) : Prop where
  ex : ∃ (H' : Hp) (ks : List Addr) (e : Nat), Inv X pins σ H' s ∧ Same H H' ∧ FpOk X pins H' D ∧ FpOk X pins H' kS ∧ s.heap.get? kS = some (seqObj "list" (ks.map Value.ref).toArray e) ∧ s.heap.get? D = some (seqObj "list" #[] e1) ∧ ks.length = i ∧ ∀ (j : Nat) t, ks[j]? = some t → H' t = some (.tup ((kf j).map V.int))
theorem key_loop {s : Shared} {D kS : Addr} {e1 : Nat} {its : List Value} {Q : PUnit → Shared → Prop} {E : Value → Shared → Prop} (kf : Nat → List Int) (hkD : kS ≠ D) (rv : Vals xs its) (hz : xs.length < sizeLine)
    (K0 : KeyI X pins σ H D kS e1 kf 0 s)
    (turn : ∀ (pins' : List (Addr × Obj)) (i : Nat) (v : V) (u : Value) (H1 : Hp) (s1 : Shared), xs[i]? = some v → Inv X pins' σ H1 s1 → RelV v u → Same H H1 →
      wpAny (model X.prog X.w) X.A.in1.in1 (call (.ref q) [u]) (EP X pins' σ fun r H2 => ∃ t, r = .ref t ∧ H2 t = some (.tup ((kf i).map V.int)) ∧ Same H1 H2) (fun _ _ => False) s1)
    {body : Value → PUnit → Sem (ForInStep PUnit)} (hb : ∀ x, body x ⟨⟩ = (do
      match ← (call (.ref q) [x]).attempt with
      | .ok k => do Builtin.List.listUpdate (.ref kS) (·.push k); pure (.yield ⟨⟩)
      | .error e => do
        rule "list.sort.key-raised"
        let made ← Builtin.List.listItems (.ref kS)
        Builtin.List.listUpdate (.ref kS) fun _ => #[]
        letGo made.toList.reverse [e]
        Builtin.List.listUpdate (.ref D) fun _ => its.toArray
        throw e))
    (done : ∀ s', KeyI X pins σ H D kS e1 kf its.length s' → Q ⟨⟩ s') : wpAny (model X.prog X.w) X.A.in1.in1 (forIn its PUnit.unit body) Q E s := by
  refine ksk_fold (fun i s' => KeyI X pins σ H D kS e1 kf i s') its 0 s K0 ?_ (fun s' h => done s' (by simpa using h))
  rintro j u s' hu ⟨H', ks, e, J, sm, fD, fK, gK, gD, kl, kt⟩
  simp only [Nat.zero_add] at kl ⊢
  have hj : j < its.length := (List.getElem?_eq_some_iff.mp hu).1
  have hlen : its.length = xs.length := rv.length.symm
  obtain ⟨v, hv, rvu⟩ : ∃ v, xs[j]? = some v ∧ RelV v u := by
    obtain ⟨u', e1, e2⟩ := rv.get (i := j) (x := xs[j]'(by omega)) (by simp [show j < xs.length by omega])
    rw [hu] at e1
    cases e1
    exact ⟨_, by simp [show j < xs.length by omega], e2⟩
  have J2 : Inv X (pins ++ [(D, seqObj "list" #[] e1), (kS, seqObj "list" (ks.map Value.ref).toArray e)]) σ H' s' := J.pins_of fun p hp => by
    rcases List.mem_append.mp hp with hp | hp
    · exact J.pin p (List.mem_append_right _ hp)
    · rcases List.mem_cons.mp hp with rfl | hp
      · exact ⟨gD, fD.1, fD.2.1, fD.2.2.1, fun v z => by cases z⟩
      · rw [List.mem_singleton.mp hp]
        exact ⟨gK, fK.1, fK.2.1, fK.2.2.1, fun v z => by cases z⟩
  rw [hb]
  refine wpAny_bind (wpAny_attempt (wpAny_mono (turn _ j v u H' _ hv J2 rvu sm) (fun x s'' he => ?_) fun _ _ hF => hF.elim))
  obtain ⟨rr, H2, J3, rx, t, rfl, ht, s2⟩ := he
  obtain rfl : x = Value.ref t := rx
  have pD := J3.pin (D, seqObj "list" #[] e1) (List.mem_append_right _ (List.mem_append_right _ (.head _)))
  have pK := J3.pin (kS, seqObj "list" (ks.map Value.ref).toArray e) (List.mem_append_right _ (List.mem_append_right _ (.tail _ (.head _))))
  have J4 : Inv X pins σ H2 s'' := J3.unpinned
  have fD2 : FpOk X pins H2 D := fD.of pD.2.1
  have fK2 : FpOk X pins H2 kS := fK.of pK.2.1
  dsimp only
  have ksz : (ks.map Value.ref).toArray.size = j := by simp [kl]
  obtain ⟨c2, hc2⟩ : ∃ c2, (s''.heap.update kS (Obj.mapSeq (·.push (.ref t)))).get? kS = some (seqObj "list" ((ks.map Value.ref).toArray.push (.ref t)) c2) := ⟨_, get?_update_seq pK.1 (·.push (.ref t))⟩
  refine wpAny_bind (listUpdate_at pK.1 rfl ?_ (by rw [ksz]; omega) (by rw [Array.size_push, ksz]; omega))
  have J5 : Inv X pins σ H2 { s'' with heap := s''.heap.update kS (Obj.mapSeq (·.push (.ref t))) } := J4.turned (t' := s''.toks) (fun b o nb e => (Heap.get?_update_other _ _ (Ne.symm nb)).trans e) fK2.1 fK2.2.1 fK2.2.2.2.1 fK2.2.2.2.2.1 fK2.2.2.2.2.2
  refine wpAny_pure ⟨rfl, H2, ks ++ [t], c2, J5, sm.trans s2, fD2, fK2, ?_, (Heap.get?_update_other _ _ hkD).trans pD.1, by simp [kl], fun i t' e => ?_⟩
  · rw [hc2]
    congr 2
    simp
  · by_cases hi : i < ks.length
    · rw [List.getElem?_append_left hi] at e
      exact s2 _ _ (kt i t' e)
    · have il := (List.getElem?_eq_some_iff.mp e).1
      rw [List.length_append, List.length_singleton] at il
      obtain rfl : i = ks.length := by omega
      rw [List.getElem?_append_right (Nat.le_refl _), Nat.sub_self] at e
      cases e
      rw [kl]
      exact ht

theorem mem_self {v : Value} {vs : List Value} (h : v ∈ vs) : (v, v) ∈ vs.zip vs := by
  induction vs with
  | nil => simp at h
  | cons x vs ih =>
    rw [List.zip_cons_cons]
    rcases List.mem_cons.mp h with rfl | h
    · exact .head _
    · exact .tail _ (ih h)
def kvAt (ks : List Addr) (its : List Value) (i : Nat) : Keyed := (Value.ref ((ks[i]?).getD 0), (its[i]?).getD .none)
theorem zip_rng {ks : List Addr} {its : List Value} (kl : ks.length = its.length) : (ks.map Value.ref).zip its = (List.range its.length).map (kvAt ks its) := by
  refine List.ext_getElem (by rw [List.length_zip, List.length_map, List.length_map, List.length_range]; omega) fun i h1 h2 => ?_
  rw [List.length_map, List.length_range] at h2
  rw [List.getElem_zip, List.getElem_map, List.getElem_map, List.getElem_range]
  unfold kvAt
  rw [List.getElem?_eq_getElem (by omega), List.getElem?_eq_getElem h2]
  rfl
theorem seg_pair {rk : Value → Nat} {arr : Array Keyed} (hs : Tim.Seg rk arr 0 arr.size) : arr.toList.Pairwise fun p q => rk p.1 ≤ rk q.1 := by
  rw [List.pairwise_iff_getElem]
  intro i j hi hj lt
  rw [Array.length_toList] at hi hj
  have := hs i j (Nat.zero_le _) (Nat.le_of_lt lt) hj
  rw [Tim.R_some (p := arr[i]) (by simp [hi]), Tim.R_some (p := arr[j]) (by simp [hj])] at this
  simpa using this
theorem sortL_end {s : Shared} {A : Around} {D kS : Addr} {e1 e : Nat} {its : List Value} {ks : List Addr} {H1 : Hp} {P : PySem.Fin → Shared → Prop} {E : Value → Shared → Prop} (kf : Nat → List Int) {k : Nat} (hk : 1 ≤ k) (hkl : ∀ j, j < its.length → (kf j).length = k) (hkD : kS ≠ D)
    (J : Inv X pins σ H1 s) (fD : FpOk X pins H1 D) (fK : FpOk X pins H1 kS) (gK : s.heap.get? kS = some (seqObj "list" (ks.map Value.ref).toArray e)) (gD : s.heap.get? D = some (seqObj "list" #[] e1)) (kl : ks.length = its.length) (hz : its.length < sizeLine)
    (kt : ∀ (j : Nat) t, ks[j]? = some t → H1 t = some (.tup ((kf j).map V.int)))
    (h : ∀ (ms : List Nat) (c : Nat) (s' : Shared), ms.Perm (List.range its.length) → ms.Pairwise (fun i j => Tim.lexB (kf j) (kf i) = false) → Inv X pins σ H1 s' → s'.heap.get? D = some (seqObj "list" (ms.map fun i => (its[i]?).getD .none).toArray c) → P (.done (.ret .none)) s') :
    wpAny (model X.prog X.w) A (ksk_end D false its.toArray e1 (.ref kS) (ks.map Value.ref).toArray) P E s := by
  have T : Tups1 s.heap k (ks.map Value.ref) := fun v hv => by
    obtain ⟨t, ht, rfl⟩ := List.mem_map.mp hv
    obtain ⟨j, ej⟩ := List.getElem?_of_mem ht
    obtain ⟨jts, p, i⟩ := ints_of J (kt j t ej)
    exact ⟨t, jts, _, rfl, p, by simpa using i, hkl j (by have := (List.getElem?_eq_some_iff.mp ej).1; omega)⟩
  have key : ∀ i, i < its.length → keyOf s.heap (kvAt ks its i).1 = kf i := fun i hi => by
    have ei : ks[i]? = some (ks[i]'(by omega)) := by simp [show i < ks.length by omega]
    obtain ⟨jts, p, ii⟩ := ints_of J (kt i _ ei)
    show keyOf s.heap (Value.ref ((ks[i]?).getD 0)) = kf i
    rw [ei]
    exact keyOf_tup p (by simpa using ii)
  have hzs : ((ks.map Value.ref).toArray.zip its.toArray).size = its.length := by rw [Array.size_zip]; simp [kl]
  have zl : ((ks.map Value.ref).toArray.zip its.toArray).toList = (List.range its.length).map (kvAt ks its) := by
    rw [← zip_rng kl, ksk_zip]
  have tail : ∀ st : SortSt, (arrOf st).Perm ((ks.map Value.ref).toArray.zip its.toArray) → Tim.Seg (Tim.rankBy (fun a b => Tim.lexB (keyOf s.heap a) (keyOf s.heap b)) (ks.map Value.ref)) (arrOf st) 0 (arrOf st).size → failedOf st = none →
      wpAny (model X.prog X.w) A (ksk_tail D false e1 (.ref kS) st) P E s := by
    intro st hp hs hfl
    have hl : (arrOf st).toList.Perm ((List.range its.length).map (kvAt ks its)) := by rw [← zl]; exact Array.perm_iff_toList_perm.mp hp
    obtain ⟨ms, m1, m2⟩ := perm_map hl
    have hin : ∀ i ∈ ms, i < its.length := fun i hi => List.mem_range.mp (m1.mem_iff.mp hi)
    have so : ms.Pairwise (fun i j => Tim.lexB (kf j) (kf i) = false) := by
      have := seg_pair hs
      rw [m2, List.pairwise_map] at this
      refine List.Pairwise.imp_of_mem (fun {i j} hi hj q => ?_) this
      have q := Tim.rank_le (Tim.swo_key (keyOf s.heap)) (List.mem_map.mpr ⟨(ks[j]?).getD 0, by
        have := hin j hj
        have ej : ks[j]? = some (ks[j]'(by omega)) := by simp [show j < ks.length by omega]
        rw [ej]
        exact List.getElem_mem _, rfl⟩) q
      rw [← key i (hin i hi), ← key j (hin j hj)]
      exact q
    have eo : (arrOf st).map (·.2) = (ms.map fun i => (its[i]?).getD .none).toArray := by
      apply Array.toList_inj.mp
      rw [Array.toList_map, m2, List.map_map]
      rfl
    have hsz2 : (arrOf st).size = its.length := by rw [hp.size_eq, hzs]
    have na1 : (s.heap.update kS (Obj.mapSeq fun _ => (#[] : Array Value))).get? D = some (seqObj "list" #[] e1) := (Heap.get?_update_other _ _ hkD).trans gD
    have J1 : Inv X pins σ H1 { s with heap := s.heap.update kS (Obj.mapSeq fun _ => (#[] : Array Value)) } := J.turned (t' := s.toks) (fun b o nb e => (Heap.get?_update_other _ _ (Ne.symm nb)).trans e) fK.1 fK.2.1 fK.2.2.2.1 fK.2.2.2.2.1 fK.2.2.2.2.2
    obtain ⟨c2, hc2⟩ : ∃ c2, ((s.heap.update kS (Obj.mapSeq fun _ => (#[] : Array Value))).update D (Obj.mapSeq fun _ => (arrOf st).map (·.2))).get? D = some (seqObj "list" ((arrOf st).map (·.2)) c2) := ⟨_, get?_update_seq na1 fun _ => (arrOf st).map (·.2)⟩
    have J2 : Inv X pins σ H1 { s with heap := (s.heap.update kS (Obj.mapSeq fun _ => (#[] : Array Value))).update D (Obj.mapSeq fun _ => (arrOf st).map (·.2)) } := J1.turned (t' := s.toks) (fun b o nb e => (Heap.get?_update_other _ _ (Ne.symm nb)).trans e) fD.1 fD.2.1 fD.2.2.2.1 fD.2.2.2.2.1 fD.2.2.2.2.2
    unfold ksk_tail
    dsimp only
    refine wpAny_bind (listUpdate_at gK rfl ?_ (by simp [kl]; omega) (Nat.zero_le _))
    refine wpAny_bind (wpAny_letGo ?_)
    refine wpAny_bind (seqEpoch_at na1 rfl ?_)
    simp only [Bool.false_eq_true, if_false]
    refine wpAny_bind (listUpdate_at na1 rfl ?_ (Nat.zero_le _) (by rw [Array.size_map, hsz2]; omega))
    rw [hfl]
    simp only [bne_self_eq_false, Bool.false_eq_true, if_false]
    refine wpAny_pure (h ms c2 _ m1 so J2 ?_)
    rw [← eo]
    exact hc2
  unfold ksk_end
  dsimp only
  simp only [Bool.false_eq_true, if_false]
  by_cases h2 : its.toArray.size < 2
  · rw [if_pos h2, if_pos h2]
    refine wpAny_bind (wpAny_pure ?_)
    rw [StateT.run_pure]
    refine wpAny_bind (wpAny_pure ?_)
    dsimp only
    refine tail (SortSt.mk' general' ((ks.map Value.ref).toArray.zip its.toArray) #[] 7 none) (Array.Perm.refl _) ?_ rfl
    intro i j _ hij hj
    have hj : j < ((ks.map Value.ref).toArray.zip its.toArray).size := hj
    rw [hzs] at hj
    rw [List.size_toArray] at h2
    have : i = j := by omega
    subst this
    exact Nat.le_refl _
  · rw [if_neg h2, if_neg h2]
    rw [List.size_toArray] at h2
    refine wpAny_bind (tups_kind hk T (by rw [List.length_map]; omega) (fun b o e => e) ?_)
    have C0 := tups_cmp (prog := X.prog) (w := X.w) (A := A) (s := s) T (fun b o e => e)
    have C : Tim.Cmp X.prog X.w A s (tuples' true) ((ks.map Value.ref).toArray.zip its.toArray) (Tim.rankBy (fun a b => Tim.lexB (keyOf s.heap a) (keyOf s.heap b)) (ks.map Value.ref)) := by
      have mm : ∀ p ∈ ((ks.map Value.ref).toArray.zip its.toArray).toList, (p.1, p.1) ∈ (pairsOf (ks.map Value.ref)).toList := fun p hp => by
        rw [pairsOf_toList]
        rw [ksk_zip] at hp
        exact mem_self (List.of_mem_zip (by simpa using hp)).1
      exact ⟨fun p hp q hq E Q hh => C0.ask (p.1, p.1) (mm p hp) (q.1, q.1) (mm q hq) E Q hh⟩
    refine wpAny_bind (wpAny_mono (Tim.wpS_sortRuns (a₀ := (ks.map Value.ref).toArray.zip its.toArray) (rk := Tim.rankBy (fun a b => Tim.lexB (keyOf s.heap a) (keyOf s.heap b)) (ks.map Value.ref)) (st := SortSt.mk' (tuples' true) ((ks.map Value.ref).toArray.zip its.toArray) #[] 7 none)
      (Q := fun _ st' => (arrOf st').Perm ((ks.map Value.ref).toArray.zip its.toArray) ∧ failedOf st' = none ∧ Tim.Seg (Tim.rankBy (fun a b => Tim.lexB (keyOf s.heap a) (keyOf s.heap b)) (ks.map Value.ref)) (arrOf st') 0 ((ks.map Value.ref).toArray.zip its.toArray).size)
      C ⟨Array.Perm.refl _, rfl, rfl, rfl⟩ (by rw [hzs]; omega) fun st' a1 a2 a3 => ⟨a1, a2, a3⟩) ?_ fun _ _ e => e)
    rintro ⟨⟨⟩, st'⟩ s' ⟨rfl, hp, hf, hs⟩
    dsimp only
    exact tail st' hp (by rw [hp.size_eq]; exact hs) hf
end
end L2
set_option Elab.async false
set_option linter.all false
set_option maxRecDepth 100000
set_option maxHeartbeats 1000000
namespace L2
open PySem PySem.Spec PyProof.Rows PySem.W
section
variable {X : Cx} {pins : List (Addr × Obj)} {σ : St} {H : Hp} {q l : Addr} {xs : List V}
theorem vals_pick {its : List Value} (rv : Vals xs its) : ∀ {ms : List Nat}, (∀ i ∈ ms, i < xs.length) → Vals (ms.map fun i => (xs[i]?).getD .non) (ms.map fun i => (its[i]?).getD .none)
  | [], _ => .nil
  | i :: ms, h => by
    have hi := h i (.head _)
    obtain ⟨u, e1, e2⟩ := rv.get (i := i) (x := xs[i]) (by simp [hi])
    refine .cons ?_ (vals_pick rv fun j hj => h j (.tail _ hj))
    dsimp only
    rw [e1, List.getElem?_eq_getElem hi]
    exact e2
theorem sortL_call {s : Shared} {Q : Value → Shared → Prop} (kf : Nat → List Int) {k : Nat} (hk : 1 ≤ k) (hkl : ∀ j, j < xs.length → (kf j).length = k) (J : Inv X pins σ H s) (hl : SqL X.K H l xs) (hz : xs.length < sizeLine)
    (turn : ∀ (pins' : List (Addr × Obj)) (i : Nat) (v : V) (u : Value) (H1 : Hp) (s1 : Shared), xs[i]? = some v → Inv X pins' σ H1 s1 → RelV v u → Same H H1 →
      wpAny (model X.prog X.w) X.A.in1.in1 (call (.ref q) [u]) (EP X pins' σ fun r H2 => ∃ t, r = .ref t ∧ H2 t = some (.tup ((kf i).map V.int)) ∧ Same H1 H2) (fun _ _ => False) s1)
    (hQ : ∀ (D : Addr) (ms : List Nat) (H1 : Hp) (s1 : Shared), ms.Perm (List.range xs.length) → ms.Pairwise (fun i j => Tim.lexB (kf j) (kf i) = false) → H1 D = none → Same H H1 → Inv X pins σ (upd H1 D (.lst (ms.map fun i => (xs[i]?).getD .non))) s1 → Q (.ref D) s1) :
    wpAny (model X.prog X.w) X.A (call (.builtin "sorted") [.ref l] [(Str.ofString "key", .ref q)]) Q X.xe s := by
  obtain ⟨its, rv, pl, _⟩ := J.list hl
  have hlen : its.length = xs.length := rv.length.symm
  refine call_function_entry_kw kind_sorted plain_sorted entry_sorted (ksk_s1 _ _) ?_
  unfold Builtin.«sorted»
  refine wpAny_bind (m := checkCount "sorted" 1 1 _) (wpAny_pure ?_)
  refine wpAny_bind (collect_list pl.isList ?_ (by omega))
  refine wpAny_bind (wpAny_newList ?_ (by show its.length ≤ _; omega))
  have hsz : ((s.heap.push (seqObj "list" #[] 0)).update s.heap.objs.size (Obj.mapSeq (· ++ its.toArray))).objs.size = s.heap.objs.size + 1 := by rw [Heap.size_update, size_push']
  have hoL : (((s.heap.push (seqObj "list" #[] 0)).update s.heap.objs.size (Obj.mapSeq (· ++ its.toArray))).push (seqObj "list" its.toArray 0)).get? (s.heap.objs.size + 1) = some (seqObj "list" its.toArray 0) := by
    rw [← hsz]; exact Heap.get?_push_size _ rfl
  have hsz2 : (((s.heap.push (seqObj "list" #[] 0)).update s.heap.objs.size (Obj.mapSeq (· ++ its.toArray))).push (seqObj "list" its.toArray 0)).objs.size = s.heap.objs.size + 2 := by rw [size_push', hsz]
  have keep : ∀ b o, s.heap.get? b = some o → (((s.heap.push (seqObj "list" #[] 0)).update s.heap.objs.size (Obj.mapSeq (· ++ its.toArray))).push (seqObj "list" its.toArray 0)).get? b = some o := fun b o q => by
    have hlt : b < s.heap.objs.size := Heap.lt_size q
    rw [Heap.get?_push_ne _ _ _ (by rw [hsz]; exact Nat.ne_of_lt (Nat.lt_succ_of_lt hlt)), Heap.get?_update_ne _ _ _ _ (Nat.ne_of_lt hlt), Heap.get?_push_ne _ _ _ (Nat.ne_of_lt hlt)]
    exact q
  show wpAny _ _ _ _ _ { s with heap := ((s.heap.push (seqObj "list" #[] 0)).update s.heap.objs.size (Obj.mapSeq (· ++ its.toArray))).push (seqObj "list" its.toArray 0) }
  rw [hsz]
  have J1 : Inv X pins σ H { s with heap := ((s.heap.push (seqObj "list" #[] 0)).update s.heap.objs.size (Obj.mapSeq (· ++ its.toArray))).push (seqObj "list" its.toArray 0) } := J.kept (t' := s.toks) keep
  have fD : FpOk X pins H (s.heap.objs.size + 1) := J.fpOk (Nat.le_succ _) (J.hok.fresh (Nat.le_succ _))
  have fK0 : ∀ n, s.heap.objs.size ≤ n → FpOk X pins H n := fun n hn => J.fpOk hn (J.hok.fresh hn)
  generalize hD : s.heap.objs.size + 1 = D at hoL fD ⊢
  generalize ((s.heap.push (seqObj "list" #[] 0)).update s.heap.objs.size (Obj.mapSeq (· ++ its.toArray))).push (seqObj "list" its.toArray 0) = h1 at hoL hsz2 keep J1 ⊢
  refine wpAny_bind (wpAny_holding (wpAny_call_entry_kw slot_list_sort ⟨_, hoL, rfl⟩ entry_list_sort ?body (ksk_l1 _ _)))
  show wpAny (model X.prog X.w) X.A.in1.in1 (Builtin.«list.sort» ⟨[.ref D], [(Str.ofString "key", .ref q)]⟩) _ _ { s with heap := h1 }
  rw [ksk_t1]
  unfold ksk_tree
  obtain ⟨e1, ho1⟩ : ∃ e1, (h1.update D (Obj.mapSeq fun _ => (#[] : Array Value))).get? D = some (seqObj "list" #[] e1) := ⟨_, get?_update_seq hoL fun _ => #[]⟩
  have J2 : Inv X pins σ H { s with heap := h1.update D (Obj.mapSeq fun _ => (#[] : Array Value)) } := J1.turned (t' := s.toks) (fun b o nb e => (Heap.get?_update_other _ _ (Ne.symm nb)).trans e) fD.1 fD.2.1 fD.2.2.2.1 fD.2.2.2.2.1 fD.2.2.2.2.2
  refine wpAny_bind (listItems_at hoL rfl ?_)
  refine wpAny_bind (listUpdate_at hoL rfl ?_ (by rw [List.size_toArray]; omega) (Nat.zero_le _))
  refine wpAny_bind (seqEpoch_at ho1 rfl ?_)
  refine wpAny_bind (wpAny_newTuple ?_ (by show its.length ≤ _; omega))
  refine wpAny_bind (wpAny_newList ?_ (Nat.zero_le _))
  refine wpAny_holding ?_
  have hkS : ((h1.update D (Obj.mapSeq fun _ => (#[] : Array Value))).push (seqObj "tuple" its.toArray 0)).objs.size = s.heap.objs.size + 3 := by rw [size_push', Heap.size_update, hsz2]
  have J3 : Inv X pins σ H { s with heap := ((h1.update D (Obj.mapSeq fun _ => (#[] : Array Value))).push (seqObj "tuple" its.toArray 0)).push (seqObj "list" #[] 0) } := J2.kept (t' := s.toks) fun b o e => Heap.get?_push_of_some _ (Heap.get?_push_of_some _ e)
  have gK : (((h1.update D (Obj.mapSeq fun _ => (#[] : Array Value))).push (seqObj "tuple" its.toArray 0)).push (seqObj "list" #[] 0)).get? (s.heap.objs.size + 3) = some (seqObj "list" #[] 0) := by rw [← hkS]; exact Heap.get?_push_size _ rfl
  have gD : (((h1.update D (Obj.mapSeq fun _ => (#[] : Array Value))).push (seqObj "tuple" its.toArray 0)).push (seqObj "list" #[] 0)).get? D = some (seqObj "list" #[] e1) := Heap.get?_push_of_some _ (Heap.get?_push_of_some _ ho1)
  have fK := fK0 (s.heap.objs.size + 3) (by omega)
  have hkD : s.heap.objs.size + 3 ≠ D := by omega
  show wpAny (model X.prog X.w) X.A.in1.in1 (ksk_rest D (.ref q) false its.toArray e1 (.ref ((h1.update D (Obj.mapSeq fun _ => (#[] : Array Value))).push (seqObj "tuple" its.toArray 0)).objs.size)) _ _ { s with heap := ((h1.update D (Obj.mapSeq fun _ => (#[] : Array Value))).push (seqObj "tuple" its.toArray 0)).push (seqObj "list" #[] 0) }
  rw [hkS]
  unfold ksk_rest
  refine wpAny_bind (wpAny_rule ?_)
  first
    | rw [List.forIn_toArray]
    | (rw [← Array.forIn_toList]; simp only [List.toList_toArray])
    | rw [← Array.forIn_toList]
  refine wpAny_bind (key_loop (q := q) (D := D) (kS := s.heap.objs.size + 3) (e1 := e1) kf hkD rv hz ⟨H, [], 0, J3, Same.refl _, fD, fK, gK, gD, rfl, fun j t e => by simp at e⟩ turn (fun x => rfl) fun s' KI => ?_)
  obtain ⟨H', ks, e, J4, sm, fD4, fK4, gK4, gD4, kl, kt⟩ := KI
  refine wpAny_bind (listItems_at gK4 rfl ?_)
  refine sortL_end kf hk (fun j hj => hkl j (by omega)) hkD J4 fD4 fK4 gK4 gD4 kl (by omega) kt fun ms c s2 m1 m2 J5 gD5 => ?_
  rw [hlen] at m1
  have hin : ∀ i ∈ ms, i < xs.length := fun i hi => List.mem_range.mp (m1.mem_iff.mp hi)
  have J6 := J5.takeL fD4 gD5 (by rw [List.length_map, m1.length_eq, List.length_range]; omega) (vals_pick rv hin)
  exact ⟨_, rfl, wpAny_pure ⟨_, rfl, hQ D ms H' s2 m1 m2 fD4.1 sm J6⟩⟩
end
/-- sorted(xs, key=lambda), the keys tuples of k numbers: the places in their new order -/
def tSortL (K : PySem.W.Frag) (qual : Str) (params : Arguments) (body : Expr) (scope : Scope) (pm : Value) (sp : List V → Hp → VK → Prop) (ta : TA) (tk : TE) : TE := fun σ H Q => ta σ H fun vs H1 => tk σ H1 fun kv H2 => ∃ (l q : Addr) (xs : List V) (k : Nat) (kf : Nat → List Int), vs = [.ref l] ∧ kv = .ref q ∧ LamF H2 q qual params body scope pm ∧ SqL K H2 l xs ∧ xs.length < sizeLine ∧ 1 ≤ k ∧ (∀ j, j < xs.length → (kf j).length = k) ∧
  (∀ (i : Nat) (v : V) (H3 : Hp), xs[i]? = some v → Same H2 H3 → sp [v] H3 fun r H4 => ∃ t, r = .ref t ∧ H4 t = some (.tup ((kf i).map V.int)) ∧ Same H3 H4) ∧
  ∀ (D : Addr) (ms : List Nat) (H3 : Hp), ms.Perm (List.range xs.length) → ms.Pairwise (fun i j => Tim.lexB (kf j) (kf i) = false) → H3 D = none → Same H2 H3 → Q (.ref D) (upd H3 D (.lst (ms.map fun i => (xs[i]?).getD .non)))
section
variable {X : Cx} {a : Expr} {ta : TA} {tk : TE} {p pos kp lpos : Pos} {k : Nat} {N ps : List Str} {qual : Str} {params : Arguments} {body : Expr} {scope : Scope} {sp : List V → Hp → VK → Prop} {pm : Value} {f : Addr}
theorem lam_in2 {pins : List (Addr × Obj)} {σ : St} {H : Hp} {s : Shared} {Q : VK} {us : List Value} {vs : List V} (L : LamOk X.prog X.w X.K X.mg X.base k N ps qual params body scope sp) (hr : Room (k + 3) X.A)
    (I : Inv X pins σ H s) (F : LamF H f qual params body scope pm) (r : Vals vs us) (q : sp vs H Q) : wpAny (model X.prog X.w) X.A.in1.in1 (call (.ref f) us) (EP X pins σ Q) (fun _ _ => False) s := by
  refine wpAny_call (codeAny_mono (lam_run L (Room.in1 (Room.in1 hr)) I.env0.in1.in1 F r q) fun res s' hq => ?_)
  match res, hq with
  | .error ev, hq => exact hq
  | .ok (.ret u), hq => exact I.after hq
theorem pe_sortL (L : LamOk X.prog X.w X.K X.mg X.base k N ps qual params body scope sp) (hr : Room (k + 3) X.A) (hg : Gl X "sorted") (hm : X.mg "sorted" = none) (hv : bootBuiltins "sorted" = some (.builtin "sorted")) (ha : PA X [a] ta) (hd : PE X (.Lambda params body scope lpos) tk)
    (he : backTo pos (starEach [a] X.env) = (false, eval a X.env) :: backTo pos (starEach [] X.env) := by rfl)
    (hplain : (backTo pos (starEach [a] X.env)).any (·.1) = false := by rfl) :
    PE X (.Call (.Name "sorted" p) [a] [⟨some "key", .Lambda params body scope lpos, kp⟩] pos) (tSortL X.K qual params body scope pm sp ta tk) := by
  intro pins s σ H Q I h
  refine wpAny_Call_Name_kw (ld_blt I hg hm hv ?_ (by decide) (by decide))
  refine PyProof.Rows.callWith_kw (thn (ha pos pins s σ H _ I h) fun us s1 ⟨vs, H1, I1, r1, q1⟩ => ?_) he hplain
  refine PyProof.Rows.kws_cons (thn (hd pins s1 σ H1 _ I1 q1) fun dv s2 ⟨x, H2, I2, r2, q2⟩ => PyProof.Rows.kws_nil ?_)
  obtain ⟨l, q, xs, kk, kf, rfl, rfl, F, hq, hz, hk, hkl, hsp, qq⟩ := q2
  obtain ⟨u, rfl, rx⟩ := vals1 r1
  cases rx
  cases r2
  show wpAny (model X.prog X.w) X.A (call (.builtin "sorted") [.ref l] [(Str.ofString "key", Value.ref q)]) _ _ s2
  refine sortL_call kf hk hkl I2 hq hz (fun pins' i v u H3 s3 e J rvu sm => ?_) fun D ms H3 s3 m1 m2 n sm J => ⟨.ref D, _, J, rfl, qq D ms H3 m1 m2 n sm⟩
  exact lam_in2 L hr J (F.same sm) (.cons rvu .nil) (hsp i v H3 e sm)
end
end L2
set_option Elab.async false
set_option linter.all false
set_option maxRecDepth 100000
set_option maxHeartbeats 4000000



namespace Prf
open PySem L2
def top (i : Nat) : Stmt := PySem.Challenge.pw_fewnotes_k32_wants_apart_judged.main.body.getD i (.Pass ⟨0, 0, 0, 0⟩)
abbrev s_is_whole : Stmt := top 1
abbrev s_names : Stmt := top 3
abbrev s_touches_meet : Stmt := top 4
abbrev s_is_note : Stmt := top 6
abbrev s_is_strict : Stmt := top 7
abbrev s_places_of : Stmt := top 8
abbrev s_apart_shows : Stmt := top 10
abbrev s_is_want : Stmt := top 11
abbrev s_hands_of : Stmt := top 12
abbrev s_Lspring : Stmt := top 14
abbrev s_Ldraw : Stmt := top 15
abbrev s_Lweb : Stmt := top 16
abbrev s_Lcalls : Stmt := top 17
abbrev s_Lmeets : Stmt := top 18
abbrev s_Lpick : Stmt := top 19
abbrev s_Lfree : Stmt := top 20
abbrev s_Lstrange : Stmt := top 21
abbrev s_Lwants : Stmt := top 22
abbrev s_Lfront : Stmt := top 23
abbrev s_Lback : Stmt := top 24
abbrev s_Lall : Stmt := top 25
abbrev s_Lapart : Stmt := top 26
abbrev s_Ldealt : Stmt := top 27
abbrev s_Lled : Stmt := top 28
abbrev s_Lmore : Stmt := top 29
abbrev s_Lsome : Stmt := top 30
abbrev s_law : Stmt := top 31
structure Blt (mg : Str → Option Value) : Prop where
  b_abs : mg "abs" = none
  b_all : mg "all" = none
  b_bool : mg "bool" = none
  b_enumerate : mg "enumerate" = none
  b_int : mg "int" = none
  b_isinstance : mg "isinstance" = none
  b_len : mg "len" = none
  b_list : mg "list" = none
  b_max : mg "max" = none
  b_min : mg "min" = none
  b_range : mg "range" = none
  b_reversed : mg "reversed" = none
  b_sorted : mg "sorted" = none
  b_tuple : mg "tuple" = none
  b_zip : mg "zip" = none
theorem sc_is_whole : FnScope ["value"] ["value"] (defScope s_is_whole) := ⟨rfl, rfl, rfl, by decide +kernel, rfl, by decide +kernel, by decide +kernel⟩
theorem sc_names : FnScope ["web", "counts", "told", "touch", "k"] ["web"] (defScope s_names) := ⟨rfl, rfl, rfl, by decide +kernel, rfl, by decide +kernel, by decide +kernel⟩
theorem sc_touches_meet : FnScope ["one", "other"] ["one", "other"] (defScope s_touches_meet) := ⟨rfl, rfl, rfl, by decide +kernel, rfl, by decide +kernel, by decide +kernel⟩
theorem sc_is_note : FnScope ["value"] ["value"] (defScope s_is_note) := ⟨rfl, rfl, rfl, by decide +kernel, rfl, by decide +kernel, by decide +kernel⟩
theorem sc_is_strict : FnScope ["places", "note"] ["places", "note"] (defScope s_is_strict) := ⟨rfl, rfl, rfl, by decide +kernel, rfl, by decide +kernel, by decide +kernel⟩
theorem sc_places_of : FnScope ["web", "places", "place", "name"] ["web"] (defScope s_places_of) := ⟨rfl, rfl, rfl, by decide +kernel, rfl, by decide +kernel, by decide +kernel⟩
theorem sc_apart_shows : FnScope ["web", "wants", "places", "in_turn", "want", "following"] ["web", "wants"] (defScope s_apart_shows) := ⟨rfl, rfl, rfl, by decide +kernel, rfl, by decide +kernel, by decide +kernel⟩
theorem sc_is_want : FnScope ["web", "places", "note"] ["web", "places", "note"] (defScope s_is_want) := ⟨rfl, rfl, rfl, by decide +kernel, rfl, by decide +kernel, by decide +kernel⟩
theorem sc_hands_of : FnScope ["note"] ["note"] (defScope s_hands_of) := ⟨rfl, rfl, rfl, by decide +kernel, rfl, by decide +kernel, by decide +kernel⟩
theorem sc_Lspring : FnScope ["script", "figures", "stir", "cell"] ["script"] (defScope s_Lspring) := ⟨rfl, rfl, rfl, by decide +kernel, rfl, by decide +kernel, by decide +kernel⟩
theorem sc_Ldraw : FnScope ["spring", "many", "found", "stir"] ["spring", "many"] (defScope s_Ldraw) := ⟨rfl, rfl, rfl, by decide +kernel, rfl, by decide +kernel, by decide +kernel⟩
theorem sc_Lweb : FnScope ["spring", "most", "shape", "size", "hands", "first", "room", "base", "kinds", "web", "at", "hand", "kind"] ["spring", "most"] (defScope s_Lweb) := ⟨rfl, rfl, rfl, by decide +kernel, rfl, by decide +kernel, by decide +kernel⟩
theorem sc_Lcalls : FnScope ["web", "many", "found", "hand", "kind", "cell"] ["web"] (defScope s_Lcalls) := ⟨rfl, rfl, rfl, by decide +kernel, rfl, by decide +kernel, by decide +kernel⟩
theorem sc_Lmeets : FnScope ["one", "other"] ["one", "other"] (defScope s_Lmeets) := ⟨rfl, rfl, rfl, by decide +kernel, rfl, by decide +kernel, by decide +kernel⟩
theorem sc_Lpick : FnScope ["spring", "web", "calls", "only", "at", "which", "turn", "j", "some"] ["spring", "web", "calls", "only"] (defScope s_Lpick) := ⟨rfl, rfl, rfl, by decide +kernel, rfl, by decide +kernel, by decide +kernel⟩
theorem sc_Lfree : FnScope ["spring", "calls", "hands", "numbers"] ["spring", "calls"] (defScope s_Lfree) := ⟨rfl, rfl, rfl, by decide +kernel, rfl, by decide +kernel, by decide +kernel⟩
theorem sc_Lstrange : FnScope ["spring", "note", "at", "how", "number"] ["spring", "note"] (defScope s_Lstrange) := ⟨rfl, rfl, rfl, by decide +kernel, rfl, by decide +kernel, by decide +kernel⟩
theorem sc_Lwants : FnScope ["web", "hand", "other", "found", "j", "firsts"] ["web", "hand", "other"] (defScope s_Lwants) := ⟨rfl, rfl, rfl, by decide +kernel, rfl, by decide +kernel, by decide +kernel⟩
theorem sc_Lfront : FnScope ["web", "hand", "other", "left", "found", "again", "want"] ["web", "hand", "other"] (defScope s_Lfront) := ⟨rfl, rfl, rfl, by decide +kernel, rfl, by decide +kernel, by decide +kernel⟩
theorem sc_Lback : FnScope ["web", "hand", "other", "left", "found", "again", "want"] ["web", "hand", "other"] (defScope s_Lback) := ⟨rfl, rfl, rfl, by decide +kernel, rfl, by decide +kernel, by decide +kernel⟩
theorem sc_Lall : FnScope ["web", "calls", "behind", "found", "hand", "other", "row"] ["web", "calls", "behind"] (defScope s_Lall) := ⟨rfl, rfl, rfl, by decide +kernel, rfl, by decide +kernel, by decide +kernel⟩
theorem sc_Lapart : FnScope ["web", "calls", "some", "stands", "place", "rows", "want", "one", "other", "at"] ["web", "calls", "some"] (defScope s_Lapart) := ⟨rfl, rfl, rfl, by decide +kernel, rfl, by decide +kernel, by decide +kernel⟩
theorem sc_Ldealt : FnScope ["spring", "some", "many", "found", "left", "again"] ["spring", "some", "many"] (defScope s_Ldealt) := ⟨rfl, rfl, rfl, by decide +kernel, rfl, by decide +kernel, by decide +kernel⟩
theorem sc_Lled : FnScope ["spring", "calls", "want", "which", "k"] ["spring", "calls", "want"] (defScope s_Lled) := ⟨rfl, rfl, rfl, by decide +kernel, rfl, by decide +kernel, by decide +kernel⟩
theorem sc_Lmore : FnScope ["spring", "web", "calls", "some", "kind"] ["spring", "web", "calls", "some", "kind"] (defScope s_Lmore) := ⟨rfl, rfl, rfl, by decide +kernel, rfl, by decide +kernel, by decide +kernel⟩
theorem sc_Lsome : FnScope ["spring", "web", "calls", "wants", "kind", "size", "at", "some", "one", "to", "bent"] ["spring", "web", "calls", "wants", "kind"] (defScope s_Lsome) := ⟨rfl, rfl, rfl, by decide +kernel, rfl, by decide +kernel, by decide +kernel⟩
theorem sc_law : FnScope ["script", "spring", "kinds", "behind", "web", "calls", "wants", "kind", "some", "handed", "found"] ["script"] (defScope s_law) := ⟨rfl, rfl, rfl, by decide +kernel, rfl, by decide +kernel, by decide +kernel⟩
section
variable {P : Program} {w : World} {K : PySem.W.Frag} {mg : Str → Option Value} {base : Heap}
/-! ### the spring and its draws -/
def SpringOk (H : Hp) (r : Addr) : Prop := ∃ f t c : Int, H r = some (.lst [.int f, .int t, .int c]) ∧ 0 ≤ f ∧ 0 ≤ t ∧ t < 2305843009213693951 ∧ 0 ≤ c
theorem SpringOk.keep {H H' : Hp} {r : Addr} (h : SpringOk H r) (k : Same H H') : SpringOk H' r := by
  obtain ⟨f, t, c, e, q⟩ := h
  exact ⟨f, t, c, k _ _ e, q⟩
theorem SpringOk.keep' {H H' : Hp} {r x : Addr} (h : SpringOk H r) (k : Kp x H H') (n : r ≠ x) : SpringOk H' r := by
  obtain ⟨f, t, c, e, q⟩ := h
  exact ⟨f, t, c, k _ _ e n, q⟩
def spDraw (K : PySem.W.Frag) : Sp := fun vs H Q _ => ∃ (r : Addr) (m : Int), vs = [.ref r, .int m] ∧ SpringOk H r ∧ 0 < m ∧ m < 1073741824 ∧ ∀ (n : Int) (H' : Hp), 0 ≤ n → n < m → SpringOk H' r → Kp r H H' → Q (.int n) H'
theorem ok_draw {f : Addr} {fd : FuncData} (F : Fun K "_law_draw" "_law_draw" s_Ldraw f fd) : FnOk P w K mg base CX0 1 f fd ["spring", "many"] (spDraw K) := by
  refine F.ok sc_Ldraw (fun vs H Q E h => ?_) (fun cdv A outer s H vs Q E hr h => ?_)
  · obtain ⟨r, m, rfl, _⟩ := h
    rfl
  · obtain ⟨r, m, rfl, ⟨f, t, c, hs, hf, ht, ht2, hc⟩, m0, m1, k⟩ := h
    refine ⟨_, (pss_cons (ps_if (pt_cmpR op_gt (pe_ix (ix_listK (K := K) rfl) (pv 0) pe_int (fun _ _ => rfl)) pe_int (nomark _)) (pss_cons (ps_set (i := 2) sc_Ldraw.nd rfl (Or.inl rfl) (pe_op op_mod (pe_ix (ix_listK (K := K) rfl) (pv 0) pe_int (fun _ _ => rfl)) (pv 1)))
      (pss_cons (ps_asg (pe_op op_fdiv (pe_ix (ix_listK (K := K) rfl) (pv 0) pe_int (fun _ _ => rfl)) (pv 1)) (pg_sub (pv 0) pe_int set_list))
      (pss_one (ps_ret (pv 2))))) pss_nil)
      (pss_cons (ps_asg (pe_op op_add (pe_ix (ix_listK (K := K) rfl) (pv 0) pe_int (fun _ _ => rfl)) pe_int) (pg_sub (pv 0) pe_int set_list))
      (pss_cons (ps_set (i := 3) sc_Ldraw.nd rfl (Or.inl rfl) (pe_op op_mod (pe_op op_mul (pe_ix (ix_listK (K := K) rfl) (pv 0) pe_int (fun _ _ => rfl)) (pe_ix (ix_listK (K := K) rfl) (pv 0) pe_int (fun _ _ => rfl))) pe_int))
      (pss_cons (ps_asg (pe_op op_mod (pe_op op_add (pe_op op_add (pv 3) (pe_op op_mul (pe_op op_mul pe_int (pe_ix (ix_listK (K := K) rfl) (pv 0) pe_int (fun _ _ => rfl))) (pe_ix (ix_listK (K := K) rfl) (pv 0) pe_int (fun _ _ => rfl)))) pe_int) pe_int) (pg_sub (pv 0) pe_int set_list))
      (pss_one (ps_ret (pe_op op_mod (pe_op op_fdiv (pe_ix (ix_listK (K := K) rfl) (pv 0) pe_int (fun _ _ => rfl)) pe_int) (pv 1)))))))), ?_⟩
    refine ⟨_, rfl, _, _, _, _, rfl, rfl, SqL.of hs, rfl, _, _, rfl, rfl, _, rfl, ?_⟩
    refine ite2 (fun h0 => ?_) (fun h0 => ?_)
    · -- found = spring[0] % many
      refine ⟨_, rfl, _, _, _, _, rfl, rfl, SqL.of hs, rfl, _, rfl, _, _, rfl, rfl, m0, ?_⟩
      -- spring[0] = spring[0] // many
      refine ⟨_, rfl, _, _, _, _, rfl, rfl, SqL.of hs, rfl, _, rfl, _, _, rfl, rfl, ⟨m0, m1⟩, _, rfl, _, _, _, _, rfl, rfl, hs, rfl, ?_⟩
      refine ⟨_, rfl, ?_⟩
      exact k _ _ (Int.emod_nonneg _ (by omega)) (Int.emod_lt_of_pos _ m0) ⟨_, _, _, upd_same, Int.ediv_nonneg hf (by omega), ht, ht2, hc⟩ Kp.set
    · -- spring[2] = spring[2] + 1
      refine ⟨_, rfl, _, _, _, _, rfl, rfl, SqL.of hs, rfl, _, _, rfl, rfl, _, rfl, _, _, _, _, rfl, rfl, hs, rfl, ?_⟩
      -- stir = spring[1] * spring[1] % M
      refine ⟨_, rfl, _, _, _, _, rfl, rfl, SqL.of upd_same, rfl, _, rfl, _, _, _, _, rfl, rfl, SqL.of upd_same, rfl, _, _, rfl, rfl, .inl ⟨by omega, by omega⟩, _, _, rfl, rfl, (by show (0 : Int) < 2305843009213693951; decide), ?_⟩
      -- spring[1] = ..
      refine ⟨_, rfl, _, rfl, _, _, _, _, rfl, rfl, SqL.of upd_same, rfl, _, _, rfl, rfl, .inl ⟨by decide, by decide⟩, _, rfl, _, _, _, _, rfl, rfl, SqL.of upd_same, rfl, _, _, rfl, rfl, .inr ⟨by omega, by omega⟩, _, _, rfl, rfl, _, _, rfl, rfl, _, _, rfl, rfl, (by show (0 : Int) < 2305843009213693951; decide),
        _, rfl, _, _, _, _, rfl, rfl, upd_same, rfl, ?_⟩
      refine ⟨_, rfl, _, _, _, _, rfl, rfl, SqL.of upd_same, rfl, _, _, rfl, rfl, (by show CDiv _ 65537; exact ⟨by decide, by decide⟩), _, rfl, _, _, rfl, rfl, m0, ?_⟩
      refine k _ _ (Int.emod_nonneg _ (by omega)) (Int.emod_lt_of_pos _ m0) ⟨_, _, _, upd_same, hf, Int.emod_nonneg _ (by decide), Int.emod_lt_of_pos _ (by decide), ?_⟩ ?_
      · show 0 ≤ c + 1
        omega
      · rw [upd_upd]
        exact Kp.set
def spSpring (K : PySem.W.Frag) : Sp := fun vs H Q _ => ∃ (a : Addr) (ns : List Int), vs = [.ref a] ∧ SqL K H a (ns.map V.int) ∧ ns.length ≤ 63 ∧ ∀ (r : Addr) (H' : Hp), H r = none → SpringOk H' r → Same H H' → Q (.ref r) H'
theorem bits60 : Builtin.Int.intBits ((10 : Int) ^ ((60 : Int).toNat)) ≤ 200 := PySem.intBits_le_iff.mpr (by decide)
theorem ok_spring {f : Addr} {fd : FuncData} (F : Fun K "_law_spring" "_law_spring" s_Lspring f fd) (Bt : Blt mg) : FnOk P w K mg base CX0 1 f fd ["script"] (spSpring K) := by
  refine F.ok sc_Lspring (fun vs H Q E h => ?_) (fun cdv A outer s H vs Q E hr h => ?_)
  · obtain ⟨a, ns, rfl, _⟩ := h
    rfl
  · obtain ⟨a, ns, rfl, hs, hlen, k⟩ := h
    refine ⟨_, (pss_cons (ps_set (i := 1) sc_Lspring.nd rfl (Or.inl rfl) pe_int)
      (pss_cons (ps_set (i := 2) sc_Lspring.nd rfl (Or.inl rfl) pe_int)
      (pss_cons (ps_for PassesOwn.never rfl (pi_listK (K := K) rfl (pe_slice (sl_listK (K := K) rfl) (pv 0) po_none (po_some pe_int))) (pg_name (i := 3) sc_Lspring.nd rfl (Or.inl rfl))
      (pss_cons (ps_if (pt_cmpR op_ge (pe_callB call_abs (by rfl) Bt.b_abs bt_abs (pa_cons (pv 3) pa_nil)) (pe_op op_pow pe_int pe_int) (nomark _)) (pss_one (ps_set (i := 1) sc_Lspring.nd rfl (Or.inl rfl) (pe_op op_add (pe_op op_mulB (pv 1) (pe_op op_pow pe_int pe_int)) (pe_op op_mod (pe_callB call_abs (by rfl) Bt.b_abs bt_abs (pa_cons (pv 3) pa_nil)) (pe_op op_pow pe_int pe_int))))) pss_nil)
      (pss_one (ps_set (i := 2) sc_Lspring.nd rfl (Or.inl rfl) (pe_op op_mod (pe_op op_add (pe_op op_add (pe_op op_mul (pv 2) pe_int) (pe_op op_mod (pv 3) pe_int)) pe_int) pe_int)))))
      (pss_one (ps_ret (pe_lst (pa_cons (pv 1) (pa_cons (pv 2) (pa_cons pe_int pa_nil))))))))), ?_⟩
    -- for cell in script[:63]
    refine ⟨_, rfl, _, rfl, _, _, rfl, hs, fun p hp => ?_⟩
    have hcut : cutV (ns.map V.int) none (some 63) = ns.map V.int := by
      unfold cutV
      rw [HT.sIx_none, show (some (63 : Int)) = some ((63 : Nat) : Int) from rfl, HT.sIx_nat, List.length_map, List.drop_zero, Nat.min_eq_right hlen, Nat.sub_zero, List.take_of_length_le (by simp)]
    rw [hcut]
    refine ⟨p, rfl, ⟨_, SqL.of upd_same⟩, for_list (K := K) (a := p) (xs := ns.map V.int) (fun i σ H2 => ∃ (f t : Int) (v : Option V), σ = [some (.ref a), some (.int f), some (.int t), v] ∧ H2 = upd H p (.lst (ns.map V.int)) ∧ 0 ≤ f ∧ Builtin.Int.intBits f ≤ 201 * i ∧ 0 ≤ t ∧ t < 2305843009213693951)
      ⟨0, 88651, none, rfl, rfl, by decide, by decide, by decide, by decide⟩ (fun i σ H2 _ ⟨_, _, _, _, e, _⟩ => by rw [e]; exact SqL.of upd_same) ?_ ?_⟩
    · rintro i y σ H2 hi ⟨f, t, v, rfl, rfl, hf, hb, ht, ht2⟩
      have hil : i < ns.length := by have := (List.getElem?_eq_some_iff.mp hi).1; rwa [List.length_map] at this
      obtain ⟨z, rfl⟩ : ∃ z, y = V.int z := by
        rw [List.getElem?_map] at hi
        cases e : ns[i]? with
        | none => rw [e] at hi; cases hi
        | some z => rw [e] at hi; exact ⟨z, (Option.some.inj hi).symm⟩
      refine ⟨_, rfl, _, rfl, _, _, rfl, rfl, (by show CPow 10 18; exact ⟨by decide, by decide, by decide⟩), _, _, rfl, rfl, _, rfl, ?_⟩
      have hcp : CPow 10 60 := ⟨by decide, by decide, by decide⟩
      refine ite2 (fun _ => ?_) (fun _ => ?_)
      · have hmul : IntMulOk f ((10 : Int) ^ ((60 : Int).toNat)) := IntMulOk.of_le hb bits60 (by omega)
        have hpos : (0 : Int) < (10 : Int) ^ ((60 : Int).toNat) := by decide
        have habs : (0 : Int) ≤ (if z < 0 then -z else z) % ((10 : Int) ^ ((60 : Int).toNat)) := Int.emod_nonneg _ (Int.ne_of_gt hpos)
        have hbits : Builtin.Int.intBits ((if z < 0 then -z else z) % ((10 : Int) ^ ((60 : Int).toNat))) ≤ 200 :=
          PySem.intBits_le_of_natAbs (y := (10 : Int) ^ ((60 : Int).toNat)) (by have := Int.emod_lt_of_pos (if z < 0 then -z else z) hpos; omega) bits60
        refine ⟨_, rfl, _, _, rfl, rfl, hcp, _, _, rfl, rfl, hmul, _, rfl, _, rfl, _, _, rfl, rfl, hcp, _, _, rfl, rfl, hpos, _, _, rfl, rfl, ?_⟩
        refine ⟨_, rfl, _, _, rfl, rfl, .inr ⟨by decide, by decide⟩, _, rfl, _, _, rfl, rfl, (by show (0 : Int) < 2305843009213693921; decide), _, _, rfl, rfl, _, _, rfl, rfl, _, _, rfl, rfl, (by show (0 : Int) < 2305843009213693951; decide), ?_⟩
        refine ⟨_, _, _, rfl, rfl, Int.add_nonneg (Int.mul_nonneg hf (Int.le_of_lt hpos)) habs, ?_, Int.emod_nonneg _ (by decide), Int.emod_lt_of_pos _ (by decide)⟩
        have q := PySem.intBits_add_le (PySem.intBits_mul_le hb bits60) hbits
        have : max (201 * i + 200) 200 + 1 = 201 * (i + 1) := by omega
        rw [this] at q
        exact q
      · refine ⟨_, rfl, _, _, rfl, rfl, .inr ⟨by decide, by decide⟩, _, rfl, _, _, rfl, rfl, (by show (0 : Int) < 2305843009213693921; decide), _, _, rfl, rfl, _, _, rfl, rfl, _, _, rfl, rfl, (by show (0 : Int) < 2305843009213693951; decide), ?_⟩
        exact ⟨_, _, _, rfl, rfl, hf, by omega, Int.emod_nonneg _ (by decide), Int.emod_lt_of_pos _ (by decide)⟩
    · rintro σ H2 ⟨f, t, v, rfl, rfl, hf, hb, ht, ht2⟩
      refine ⟨_, rfl, _, rfl, (by show 3 ≤ sizeLine; decide), fun r hr' => ?_⟩
      exact k r _ ((same_new hp).free hr') ⟨f, t, 0, upd_same, hf, ht, ht2, by decide⟩ ((same_new hp).trans (same_new hr'))

/-! ### a web -/
abbrev Tch := Int × Str × Int
def tD (x : Tch) : PyData := .tuple [.int x.1, .str x.2.1, .int x.2.2]
theorem imm_tD (x : Tch) : imm (tD x) = true := rfl
def TchOk (x : Tch) : Prop := (0 ≤ x.1 ∧ x.1 < 8) ∧ (x.2.1 = "load" ∨ x.2.1 = "store" ∨ x.2.1 = "swap") ∧ (0 ≤ x.2.2 ∧ x.2.2 < 20)
theorem dat_tch {H : Hp} {t : Addr} {x : Tch} (h : H t = some (.tup [.int x.1, .str x.2.1, .int x.2.2])) : Dat H (.ref t) (tD x) := by
  simp only [tD, Dat]
  exact ⟨t, _, rfl, h, by simp only [Dats, Dat, and_self]⟩
theorem dats_one {H : Hp} {v : V} {d : PyData} (h : Dat H v d) : Dats H [v] [d] := by
  simp only [Dats, and_true]
  exact h
/-- a list of touches stands at a -/
def WebAt (H : Hp) (a : Addr) (ws : List Tch) : Prop := ∃ vs, H a = some (.lst vs) ∧ Dats H vs (ws.map tD)
theorem WebAt.same {H H' : Hp} {a : Addr} {ws : List Tch} (h : WebAt H a ws) (k : Same H H') : WebAt H' a ws := by
  obtain ⟨vs, e, d⟩ := h
  exact ⟨vs, k _ _ e, Dats.keep k.tups _ (imms_map _ imm_tD ws) d⟩
theorem WebAt.kp {H H' : Hp} {a r : Addr} {ws : List Tch} {ys : List V} (h : WebAt H a ws) (hr : H r = some (.lst ys)) (k : Kp r H H') (n : a ≠ r) : WebAt H' a ws := by
  obtain ⟨vs, e, d⟩ := h
  exact ⟨vs, k _ _ e n, Dats.keep (k.tups hr) _ (imms_map _ imm_tD ws) d⟩
theorem WebAt.spr {H H' : Hp} {a r : Addr} {ws : List Tch} (h : WebAt H a ws) (hr : SpringOk H r) (k : Kp r H H') (n : a ≠ r) : WebAt H' a ws := by
  obtain ⟨f, t, c, e, _⟩ := hr
  exact h.kp e k n
def spWeb (K : PySem.W.Frag) : Sp := fun vs H Q _ => ∃ (r : Addr) (most : Int), vs = [.ref r, .int most] ∧ SpringOk H r ∧ 0 ≤ most ∧ most ≤ 300 ∧
  ∀ (a : Addr) (ws : List Tch) (H' : Hp), H a = none → WebAt H' a ws → (∀ x ∈ ws, TchOk x) → ws.length ≤ 300 → SpringOk H' r → Kp r H H' → Q (.ref a) H'
theorem menu3 (most : Int) (h0 : 0 ≤ most) (h1 : most ≤ 300) (b1 b2 : Bool) : ∃ v : Int, atI [V.int 31, V.int 101, V.int (most + 1)] ((if b1 then 1 else 0) + (if b2 then 1 else 0)) = some (V.int v) ∧ 0 < v ∧ v ≤ 301 := by
  cases b1 <;> cases b2
  · exact ⟨31, rfl, by decide, by decide⟩
  · exact ⟨101, rfl, by decide, by decide⟩
  · exact ⟨101, rfl, by decide, by decide⟩
  · exact ⟨most + 1, rfl, by omega, by omega⟩
theorem menu5 (n : Int) (h0 : 0 ≤ n) (h1 : n < 5) : ∃ v : Int, atI [V.int 1, V.int 2, V.int 3, V.int 5, V.int 20] n = some (V.int v) ∧ 0 < v ∧ v ≤ 20 := by
  have : n = 0 ∨ n = 1 ∨ n = 2 ∨ n = 3 ∨ n = 4 := by omega
  rcases this with rfl | rfl | rfl | rfl | rfl
  · exact ⟨1, rfl, by decide, by decide⟩
  · exact ⟨2, rfl, by decide, by decide⟩
  · exact ⟨3, rfl, by decide, by decide⟩
  · exact ⟨5, rfl, by decide, by decide⟩
  · exact ⟨20, rfl, by decide, by decide⟩
/-- a list of kinds -/
def KindsOk (ks : List Str) : Prop := 0 < ks.length ∧ ks.length ≤ 6 ∧ ∀ k ∈ ks, k = "load" ∨ k = "store" ∨ k = "swap"
theorem atI_int {α : Type} {xs : List α} {n : Int} (h0 : 0 ≤ n) (h1 : n < xs.length) : ∃ v, atI xs n = some v ∧ xs[n.toNat]? = some v := by
  obtain ⟨m, rfl⟩ := Int.eq_ofNat_of_zero_le h0
  have : m < xs.length := by omega
  exact ⟨xs[m], atI_nat (by simp [this]), by simp [this]⟩
/-- the names of ok_web as they stand -/
def wSt (a0 : Addr) (a1 : Int) (a2 : Int) (a3 : Int) (a4 : Int) (a5 : Int) (a6 : Int) (a7 : Int) (a8 : Addr) (x9 : Option V) (x10 : Option V) (x11 : Option V) (x12 : Option V) : St := [some (.ref a0), some (.int a1), some (.int a2), some (.int a3), some (.int a4), some (.int a5), some (.int a6), some (.int a7), some (.ref a8), x9, x10, x11, x12]
theorem ok_web {f : Addr} {fd : FuncData} (F : Fun K "_law_web" "_law_web" s_Lweb f fd) (F_Ldraw : FnAt P w K mg base 1 "_law_draw" ["spring", "many"] (spDraw K)) (Bt : Blt mg) : FnOk P w K mg base CX0 2 f fd ["spring", "most"] (spWeb K) := by
  refine F.ok sc_Lweb (fun vs H Q E h => ?_) (fun cdv A outer s H vs Q E hr h => ?_)
  · obtain ⟨r, m, rfl, _⟩ := h
    rfl
  · obtain ⟨r, most, rfl, S0, mo0, mo1, k⟩ := h
    refine ⟨_, (pss_cons (ps_set (i := 2) sc_Lweb.nd rfl (Or.inl rfl) (pe_fn F_Ldraw (hr.mono (by decide)) (by rfl) (pa_cons (pv 0) (pa_cons pe_int pa_nil))))
      (pss_cons (ps_set (i := 3) sc_Lweb.nd rfl (Or.inl rfl) (pe_fn F_Ldraw (hr.mono (by decide)) (by rfl) (pa_cons (pv 0) (pa_cons (pe_ix (ix_listK (K := K) rfl) (pe_lst (pa_cons pe_int (pa_cons pe_int (pa_cons (pe_op op_add (pv 1) pe_int) pa_nil)))) (pe_op op_add (pe_callTy call_int1 (by rfl) Bt.b_int bt_int (pa_cons (pe_cmpR op_eq (pe_op op_mod (pv 2) pe_int) pe_int (nomark _)) pa_nil)) (pe_callTy call_int1 (by rfl) Bt.b_int bt_int (pa_cons (pe_cmpR op_eq (pv 2) pe_int (nomark _)) pa_nil))) (fun _ _ => rfl)) pa_nil))))
      (pss_cons (ps_set (i := 4) sc_Lweb.nd rfl (Or.inl rfl) (pe_op op_add pe_int (pe_fn F_Ldraw (hr.mono (by decide)) (by rfl) (pa_cons (pv 0) (pa_cons pe_int pa_nil)))))
      (pss_cons (ps_set (i := 5) sc_Lweb.nd rfl (Or.inl rfl) (pe_fn F_Ldraw (hr.mono (by decide)) (by rfl) (pa_cons (pv 0) (pa_cons pe_int pa_nil))))
      (pss_cons (ps_set (i := 6) sc_Lweb.nd rfl (Or.inl rfl) (pe_ix (ix_listK (K := K) rfl) (pe_lst (pa_cons pe_int (pa_cons pe_int (pa_cons pe_int (pa_cons pe_int (pa_cons pe_int pa_nil)))))) (pe_fn F_Ldraw (hr.mono (by decide)) (by rfl) (pa_cons (pv 0) (pa_cons pe_int pa_nil))) (fun _ _ => rfl)))
      (pss_cons (ps_set (i := 7) sc_Lweb.nd rfl (Or.inl rfl) (pe_fn F_Ldraw (hr.mono (by decide)) (by rfl) (pa_cons (pv 0) (pa_cons pe_int pa_nil))))
      (pss_cons (ps_set (i := 8) sc_Lweb.nd rfl (Or.inl rfl) (pe_lst (pa_cons pe_str (pa_cons pe_str (pa_cons pe_str pa_nil)))))
      (pss_cons (ps_if (pt_cmpR op_eq (pe_fn F_Ldraw (hr.mono (by decide)) (by rfl) (pa_cons (pv 0) (pa_cons pe_int pa_nil))) pe_int (nomark _)) (pss_one (ps_set (i := 8) sc_Lweb.nd rfl (Or.inl rfl) (pe_lst (pa_cons pe_str (pa_cons pe_str (pa_cons pe_str (pa_cons pe_str (pa_cons pe_str (pa_cons pe_str pa_nil))))))))) pss_nil)
      (pss_cons (ps_set (i := 9) sc_Lweb.nd rfl (Or.inl rfl) (pe_lst pa_nil))
      (pss_cons (ps_for PassesOwn.never rfl (pi_range1 (by rfl) Bt.b_range (pa_cons (pv 3) pa_nil)) (pg_name (i := 10) sc_Lweb.nd rfl (Or.inl rfl))
      (pss_cons (ps_set (i := 11) sc_Lweb.nd rfl (Or.inl rfl) (pe_op op_mod (pe_op op_add (pv 5) (pe_fn F_Ldraw (hr.mono (by decide)) (by rfl) (pa_cons (pv 0) (pa_cons (pv 4) pa_nil)))) pe_int))
      (pss_cons (ps_set (i := 12) sc_Lweb.nd rfl (Or.inl rfl) (pe_ix (ix_listK (K := K) rfl) (pv 8) (pe_fn F_Ldraw (hr.mono (by decide)) (by rfl) (pa_cons (pv 0) (pa_cons (pe_callB (call_len_seqK (K := K) rfl) (by rfl) Bt.b_len bt_len (pa_cons (pv 8) pa_nil)) pa_nil))) (fun _ _ => rfl)))
      (pss_one (ps_expr (pe_appendK (K := K) rfl (pv 9) (pa_cons (pe_tup (pa_cons (pv 11) (pa_cons (pv 12) (pa_cons (pe_op op_mod (pe_op op_add (pv 7) (pe_fn F_Ldraw (hr.mono (by decide)) (by rfl) (pa_cons (pv 0) (pa_cons (pv 6) pa_nil)))) pe_int) pa_nil)))) pa_nil)))))))
      (pss_one (ps_ret (pv 9))))))))))))), ?_⟩
    -- shape
    refine seq_one (fun R g => ?_)
    refine ⟨_, rfl, r, 32, rfl, S0, by decide, by decide, fun n1 H1 a1 b1 S1 k1 => ?_⟩
    refine g _ _ ?_
    -- size
    refine seq_one (fun R g => ?_)
    refine ⟨_, rfl, _, rfl, _, _, rfl, rfl, (by show 3 ≤ sizeLine; decide), fun p hp => ?_⟩
    obtain ⟨v1, e1, v10, v11⟩ := menu3 most mo0 mo1 (decide (V.int (n1 % 8) = V.int 7)) (decide (V.int n1 = V.int 31))
    have sm1 := same_new (o := HO.lst [V.int 31, V.int 101, V.int (most + 1)]) hp
    have S1' := S1.keep sm1
    refine ⟨_, rfl, _, _, rfl, rfl, (by show (0 : Int) < 8; decide), rfl, Or.inr ⟨_, rfl, _, rfl, rfl, Or.inr ⟨_, rfl, _, _, rfl, rfl, _, _, _, _, rfl, rfl, SqL.of upd_same, e1, ?_⟩⟩⟩
    refine ⟨r, v1, rfl, S1', v10, by omega, fun n2 H2 a2 b2 S2 k2 => ?_⟩
    refine g _ _ ?_
    -- hands, first
    refine seq_one (fun R g => ?_)
    refine ⟨_, rfl, r, 8, rfl, S2, by decide, by decide, fun n3 H3 a3 b3 S3 k3 => ⟨_, _, rfl, rfl, ?_⟩⟩
    refine g _ _ ?_
    refine seq_one (fun R g => ?_)
    refine ⟨_, rfl, r, 8, rfl, S3, by decide, by decide, fun n4 H4 a4 b4 S4 k4 => ?_⟩
    refine g _ _ ?_
    -- room
    refine seq_one (fun R g => ?_)
    refine ⟨(by show 5 ≤ sizeLine; decide), fun p2 hp2 => ?_⟩
    have sm2 := same_new (o := HO.lst [V.int 1, V.int 2, V.int 3, V.int 5, V.int 20]) hp2
    refine ⟨_, rfl, r, 5, rfl, S4.keep sm2, by decide, by decide, fun n5 H5 a5 b5 S5 k5 => ?_⟩
    obtain ⟨v2, e2, v20, v21⟩ := menu5 n5 a5 b5
    have np2 : p2 ≠ r := by
      obtain ⟨f, t, c, e, _⟩ := S4
      exact (ne_of_none e hp2).symm
    refine ⟨_, _, _, _, rfl, rfl, SqL.of (k5 _ _ upd_same np2), e2, ?_⟩
    refine g _ _ ?_
    -- base
    refine seq_one (fun R g => ?_)
    refine ⟨_, rfl, r, 20, rfl, S5, by decide, by decide, fun n6 H6 a6 b6 S6 k6 => ?_⟩
    refine g _ _ ?_
    have kk : Kp r H H6 := ((((((k1.trans (.of_same sm1)).trans k2).trans k3).trans k4).trans (.of_same sm2)).trans k5).trans k6
    -- kinds
    refine seq_one (fun R g => ?_)
    refine ⟨(by show 3 ≤ sizeLine; decide), fun q hq => ?_⟩
    have sm3 := same_new (o := HO.lst [V.str "load", V.str "store", V.str "swap"]) hq
    refine g _ _ ?_
    have nq : q ≠ r := by
      obtain ⟨f, t, c, e, _⟩ := S6
      exact (ne_of_none e hq).symm
    refine ⟨_, rfl, r, 3, rfl, S6.keep sm3, by decide, by decide, fun n7 H7 a7 b7 S7 k7 => ?_⟩
    -- what is behind the choice of the kinds
    have rest : ∀ (kd : Addr) (ks : List Str) (H8 : Hp), KindsOk ks → kd ≠ r → H8 kd = some (.lst (ks.map V.str)) → SpringOk H8 r → Kp r H H8 →
        ∀ t : TS, t = tSeq (tAsg (tLst tNil) (gName 9)) (tSeq (tFor (iRng1 (tCons (tVar 3) tNil)) (gName 10)
          (tSeq (tAsg (tOp (rI (fun _ j => 0 < j) fun i j => V.int (i % j)) (tOp (rI0 fun i j => V.int (i + j)) (tVar 5) (tCall (spDraw K) [] E0 (tCons (tVar 0) (tCons (tVar 4) tNil)))) (tC (V.int 8))) (gName 11))
            (tSeq (tAsg (tOp (rIxL K) (tVar 8) (tCall (spDraw K) [] E0 (tCons (tVar 0) (tCons (tCB (rLen K) (tCons (tVar 8) tNil)) tNil)))) (gName 12))
              (tDrop (tBM K "list" rAppend (tVar 9) (tCons (tTup (tCons (tVar 11) (tCons (tVar 12) (tCons (tOp (rI (fun _ j => 0 < j) fun i j => V.int (i % j)) (tOp (rI0 fun i j => V.int (i + j)) (tVar 7) (tCall (spDraw K) [] E0 (tCons (tVar 0) (tCons (tVar 6) tNil)))) (tC (V.int 20))) tNil)))) tNil))))))
          (tRet (tVar 9))) →
        t { nx := fun _ H' => Q .non H', rt := Q } (wSt r most n1 n2 (1 + n3) n4 v2 n6 kd none none none none) H8 := by
      intro kd ks H8 hks nk hk S8 k8 t et
      subst et
      refine ⟨(by show 0 ≤ sizeLine; decide), fun w hw => ?_⟩
      have sm4 := same_new (o := HO.lst []) hw
      have nw : w ≠ r := by
        obtain ⟨f, t, c, e, _⟩ := S8
        exact (ne_of_none e hw).symm
      have nwk : w ≠ kd := (ne_of_none hk hw).symm
      have fresh : H w = none := by
        cases e : H w with
        | none => rfl
        | some o => rw [k8 w o e nw] at hw; cases hw
      refine ⟨_, rfl, n2, rfl, by omega, by omega, for_range (lo := 0) (n := n2.toNat) (fun i σ H2 => ∃ (ws : List Tch) (x1 x2 x3 : Option V), σ = (wSt r most n1 n2 (1 + n3) n4 v2 n6 kd (some (.ref w)) x1 x2 x3) ∧
        WebAt H2 w ws ∧ (∀ x ∈ ws, TchOk x) ∧ ws.length = i ∧ SpringOk H2 r ∧ Kp r H H2 ∧ H2 kd = some (.lst (ks.map V.str)))
        ⟨[], none, none, none, rfl, ⟨[], upd_same, by simp only [List.map_nil, Dats]⟩, by simp, rfl, S8.keep sm4, k8.trans (.of_same sm4), sm4 _ _ hk⟩ ?_ ?_⟩
      · rintro i σ H2 hi ⟨ws, x1, x2, x3, rfl, W2, ok2, len2, S2', kp2, hk2⟩
        -- hand
        refine ⟨_, rfl, _, rfl, _, rfl, r, _, rfl, S2', by omega, by omega, fun m1 G1 c1 d1 T1 j1 => ⟨_, _, rfl, rfl, _, _, rfl, rfl, (by show (0 : Int) < 8; decide), ?_⟩⟩
        -- kind
        have hk3 := j1 _ _ hk2 nk
        refine ⟨_, rfl, _, rfl, _, rfl, kd, _, rfl, .inl (SqL.of hk3), r, _, rfl, T1, ?_, ?_, fun m2 G2 c2 d2 T2 j2 => ?_⟩
        · have := hks.1; rw [List.length_map]; omega
        · have := hks.2.1; rw [List.length_map]; omega
        rw [List.length_map] at d2
        obtain ⟨kv, ek, ek'⟩ := atI_int (xs := ks.map V.str) c2 (by rw [List.length_map]; exact d2)
        obtain ⟨kind, ekind, rfl⟩ : ∃ kind, ks[m2.toNat]? = some kind ∧ V.str kind = kv := by
          rw [List.getElem?_map] at ek'
          cases e : ks[m2.toNat]? with
          | none => rw [e] at ek'; cases ek'
          | some z => rw [e] at ek'; exact ⟨z, rfl, Option.some.inj ek'⟩
        have hk4 := j2 _ _ hk3 nk
        refine ⟨_, _, _, _, rfl, rfl, SqL.of hk4, ek, ?_⟩
        -- web.append((hand, kind, cell))
        have W3 := (W2.spr S2' j1 nw).spr T1 j2 nw
        obtain ⟨vs3, hw3, dt3⟩ := id W3
        refine ⟨_, rfl, .inl ⟨rfl, _, SqL.of hw3⟩, _, rfl, _, rfl, _, rfl, _, rfl, _, rfl, r, v2, rfl, T2, v20, by omega, fun m3 G3 c3 d3 T3 j3 => ⟨_, _, rfl, rfl, _, _, rfl, rfl, (by show (0 : Int) < 20; decide), (by show 3 ≤ sizeLine; decide), fun tp htp => ?_⟩⟩
        have W4 := W3.spr T2 j3 nw
        have smt := same_new (o := HO.tup [V.int ((n4 + m1) % 8), V.str kind, V.int ((n6 + m3) % 20)]) htp
        obtain ⟨vs5, hw5, dt5⟩ := W4.same smt
        have len5 : vs5.length = i := by rw [dt5.length, List.length_map, len2]
        refine ⟨w, vs5, _, rfl, rfl, hw5, (by rw [len5, sizeLine_eq]; omega), ?_⟩
        have kset : Kp w (upd G3 tp (HO.tup [V.int ((n4 + m1) % 8), V.str kind, V.int ((n6 + m3) % 20)])) (upd (upd G3 tp (HO.tup [V.int ((n4 + m1) % 8), V.str kind, V.int ((n6 + m3) % 20)])) w (HO.lst (vs5 ++ [V.ref tp]))) := Kp.set
        refine ⟨ws ++ [((n4 + m1) % 8, kind, (n6 + m3) % 20)], _, _, _, rfl, ⟨_, upd_same, ?_⟩, ?_, ?_, ?_, ?_, ?_⟩
        · rw [List.map_append]
          refine Dats.append (Dats.keep (kset.tups hw5) _ (imms_map _ imm_tD ws) dt5) ?_
          exact dats_one (dat_tch (x := ((n4 + m1) % 8, kind, (n6 + m3) % 20)) (kset _ _ upd_same (ne_of upd_same hw5 (by intro z; cases z))))
        · intro x hx
          rcases List.mem_append.mp hx with hx | hx
          · exact ok2 x hx
          · rw [List.mem_singleton] at hx
            subst hx
            exact ⟨⟨Int.emod_nonneg _ (by decide), Int.emod_lt_of_pos _ (by decide)⟩, hks.2.2 kind (List.mem_of_getElem? ekind), ⟨Int.emod_nonneg _ (by decide), Int.emod_lt_of_pos _ (by decide)⟩⟩
        · rw [List.length_append, len2]; rfl
        · exact (T3.keep smt).keep' kset nw.symm
        · have u1 : Kp r H G3 := ((kp2.trans j1).trans j2).trans j3
          intro b o e n
          refine kset b o (smt b o (u1 b o e n)) ?_
          rintro rfl
          rw [fresh] at e
          cases e
        · exact kset _ _ (smt _ _ (j3 _ _ hk4 nk)) nwk.symm
      · rintro σ H2 ⟨ws, x1, x2, x3, rfl, W2, ok2, len2, S2', kp2, hk2⟩
        exact ⟨_, rfl, k w ws H2 fresh W2 ok2 (by omega) S2' kp2⟩
    refine ⟨rfl, _, rfl, ?_⟩
    have hq7 := k7 _ _ (upd_same (H := H6) (a := q) (o := HO.lst [V.str "load", V.str "store", V.str "swap"])) nq
    have k67 : Kp r H H7 := (kk.trans (.of_same sm3)).trans k7
    refine ite2 (fun _ => ?_) (fun _ => ?_)
    · refine ⟨(by show 6 ≤ sizeLine; decide), fun q2 hq2 => ?_⟩
      have sm5 := same_new (o := HO.lst [V.str "load", V.str "load", V.str "load", V.str "load", V.str "store", V.str "swap"]) hq2
      have nq2 : q2 ≠ r := by
        obtain ⟨f, t, c, e, _⟩ := S7
        exact (ne_of_none e hq2).symm
      exact rest q2 ["load", "load", "load", "load", "store", "swap"] _ ⟨by decide, by decide, by simp⟩ nq2 upd_same (S7.keep sm5) (k67.trans (.of_same sm5)) _ rfl
    · exact rest q ["load", "store", "swap"] _ ⟨by decide, by decide, by simp⟩ nq hq7 S7 k67 _ rfl

theorem dat_tch_inv {H : Hp} {v : V} {x : Tch} (h : Dat H v (tD x)) : ∃ t, v = .ref t ∧ H t = some (.tup [.int x.1, .str x.2.1, .int x.2.2]) := by
  simp only [tD, Dat] at h
  obtain ⟨t, vs, e, q, d⟩ := h
  match vs, d with
  | [a, b, c], d =>
    simp only [Dats, Dat, and_true] at d
    obtain ⟨rfl, rfl, rfl⟩ := d
    exact ⟨t, e, q⟩
  | [], d => simp only [Dats] at d
  | [_], d => simp only [Dats, and_false] at d
  | [_, _], d => simp only [Dats, and_false] at d
  | _ :: _ :: _ :: _ :: _, d => simp only [Dats, and_false] at d

/-! ### webs compared -/
theorem eqv_tD (x y : Tch) : PyData.eqv (tD x) (tD y) = decide (x = y) := by
  obtain ⟨a, b, c⟩ := x
  obtain ⟨a', b', c'⟩ := y
  simp only [tD, PyData.eqv, PyData.eqvAll, Bool.and_true]
  by_cases e1 : a = a'
  · subst e1
    by_cases e2 : b = b'
    · subst e2
      by_cases e3 : c = c'
      · subst e3; simp
      · simp [e3]
    · simp [e2]
  · simp [e1]
theorem shaped_web {ws : List Tch} (ok : ∀ x ∈ ws, TchOk x) : SeqAt.shaped (.list (ws.map tD)) = true := by
  refine shaped_list tD 1 (by decide) (fun x hx => ?_) (fun x _ => by show (max 0 (max 0 (max 0 0))) + 1 ≤ 1; decide)
  have e : PyData.canLay0 (tD x) = (true && (PyData.strOk x.2.1 && (true && true))) := rfl
  rw [e]
  rcases (ok x hx).2.1 with q | q | q <;> rw [q] <;> decide +kernel
theorem web_get {H : Hp} {a : Addr} {ws : List Tch} {i : Nat} {x : Tch} (h : WebAt H a ws) (e : ws[i]? = some x) : ∃ vs t, H a = some (.lst vs) ∧ vs[i]? = some (.ref t) ∧ H t = some (.tup [.int x.1, .str x.2.1, .int x.2.2]) := by
  obtain ⟨vs, ha, d⟩ := h
  obtain ⟨v, ev, dv⟩ := d.getD (i := i) (d := tD x) (by rw [List.getElem?_map, e]; rfl)
  obtain ⟨t, rfl, ht⟩ := dat_tch_inv dv
  exact ⟨vs, t, ha, ev, ht⟩

/-! ### records -/
abbrev Nt := Int × Int × Int × Int
def nD (x : Nt) : PyData := .tuple [.int x.1, .int x.2.1, .int x.2.2.1, .int x.2.2.2]
def nV (x : Nt) : List V := [.int x.1, .int x.2.1, .int x.2.2.1, .int x.2.2.2]
theorem imm_nD (x : Nt) : imm (nD x) = true := rfl
theorem dats1 {H : Hp} {v : V} {d : PyData} (h : Dat H v d) : Dats H [v] [d] := by
  simp only [Dats, and_true]
  exact h
theorem dat_nt {H : Hp} {t : Addr} {x : Nt} (h : H t = some (.tup (nV x))) : Dat H (.ref t) (nD x) := by
  simp only [nD, Dat]
  exact ⟨t, _, rfl, h, by simp only [nV, Dats, Dat, and_self]⟩
theorem dat_nt_inv {H : Hp} {v : V} {x : Nt} (h : Dat H v (nD x)) : ∃ t, v = .ref t ∧ H t = some (.tup (nV x)) := by
  simp only [nD, Dat] at h
  obtain ⟨t, vs, e, q, d⟩ := h
  match vs, d with
  | [a, b, c, z], d =>
    simp only [Dats, Dat, and_true] at d
    obtain ⟨rfl, rfl, rfl, rfl⟩ := d
    exact ⟨t, e, q⟩
  | [], d => simp only [Dats] at d
  | [_], d => simp only [Dats, and_false] at d
  | [_, _], d => simp only [Dats, and_false] at d
  | [_, _, _], d => simp only [Dats, and_false] at d
  | _ :: _ :: _ :: _ :: _ :: _, d => simp only [Dats, and_false] at d
def NtsAt (H : Hp) (a : Addr) (ns : List Nt) : Prop := ∃ vs, H a = some (.lst vs) ∧ Dats H vs (ns.map nD)
theorem NtsAt.same {H H' : Hp} {a : Addr} {ns : List Nt} (h : NtsAt H a ns) (k : Same H H') : NtsAt H' a ns := by
  obtain ⟨vs, e, d⟩ := h
  exact ⟨vs, k _ _ e, Dats.keep k.tups _ (imms_map _ imm_nD ns) d⟩
theorem nts_get {H : Hp} {vs : List V} {ns : List Nt} {i : Nat} {v : V} (d : Dats H vs (ns.map nD)) (e : vs[i]? = some v) : ∃ x t, ns[i]? = some x ∧ v = .ref t ∧ H t = some (.tup (nV x)) := by
  obtain ⟨q, eq, dq⟩ := d.get e
  rw [List.getElem?_map] at eq
  cases ex : ns[i]? with
  | none => rw [ex] at eq; cases eq
  | some x =>
    rw [ex] at eq
    cases eq
    obtain ⟨t, rfl, ht⟩ := dat_nt_inv dq
    exact ⟨x, t, rfl, rfl, ht⟩
def gI (cs : List Int) (h : Int) : Int := (cs[h.toNat]?).getD 0
theorem atI_gI {cs : List Int} {h : Int} (h0 : 0 ≤ h) (h1 : h < cs.length) : atI (cs.map V.int) h = some (.int (gI cs h)) := by
  obtain ⟨m, rfl⟩ := Int.eq_ofNat_of_zero_le h0
  have : m < cs.length := by (clear h0; omega)
  refine atI_nat ?_
  simp [gI, this]
theorem ixN_nat {n : Nat} {i : Int} (h0 : 0 ≤ i) (h1 : i < n) : ixN n i = some i.toNat := by unfold ixN; rw [if_pos h0, if_pos h1]
theorem gI_set {cs : List Int} {h k v : Int} (h0 : 0 ≤ h) (h1 : h < cs.length) (k0 : 0 ≤ k) : gI (cs.set h.toNat v) k = if k = h then v else gI cs k := by
  unfold gI
  rw [List.getElem?_set]
  by_cases e : k = h
  · subst e
    have : k.toNat < cs.length := by (clear h0; omega)
    simp [this]
  · have : ¬ h.toNat = k.toNat := by (clear h1; omega)
    simp [e, this]
theorem cut4a (a b c d : V) : cutV [a, b, c, d] none (some 2) = [a, b] := cut_take _ 2
theorem cut4b (a b c d : V) : cutV [a, b, c, d] (some 2) none = [c, d] := cut_drop _ 2
theorem part4a {α : Type} (xs : List α) (h : xs.length = 4) : ¬ (HT.sIx xs.length 0 none = 0 ∧ HT.sIx xs.length xs.length (some 2) = xs.length) := by
  rw [h]; decide
theorem part4b {α : Type} (xs : List α) (h : xs.length = 4) : ¬ (HT.sIx xs.length 0 (some 2) = 0 ∧ HT.sIx xs.length xs.length none = xs.length) := by
  rw [h]; decide

/-! ### pairs -/
abbrev Prs := Int × Int
def pD (x : Prs) : PyData := .tuple [.int x.1, .int x.2]
theorem imm_pD (x : Prs) : imm (pD x) = true := rfl
theorem dat_prs {H : Hp} {t : Addr} {x : Prs} (h : H t = some (.tup [.int x.1, .int x.2])) : Dat H (.ref t) (pD x) := by
  simp only [pD, Dat]
  exact ⟨t, _, rfl, h, by simp only [Dats, Dat, and_self]⟩
theorem dat_prs_inv {H : Hp} {v : V} {x : Prs} (h : Dat H v (pD x)) : ∃ t, v = .ref t ∧ H t = some (.tup [.int x.1, .int x.2]) := by
  simp only [pD, Dat] at h
  obtain ⟨t, vs, e, q, d⟩ := h
  match vs, d with
  | [a, b], d =>
    simp only [Dats, Dat, and_true] at d
    obtain ⟨rfl, rfl⟩ := d
    exact ⟨t, e, q⟩
  | [], d => simp only [Dats] at d
  | [_], d => simp only [Dats, and_false] at d
  | _ :: _ :: _ :: _, d => simp only [Dats, and_false] at d
def PrsAt (H : Hp) (a : Addr) (ps : List Prs) : Prop := ∃ vs, H a = some (.lst vs) ∧ Dats H vs (ps.map pD)
theorem PrsAt.same {H H' : Hp} {a : Addr} {ws : List Prs} (h : PrsAt H a ws) (k : Same H H') : PrsAt H' a ws := by
  obtain ⟨vs, e, d⟩ := h
  exact ⟨vs, k _ _ e, Dats.keep k.tups _ (imms_map _ imm_pD ws) d⟩
theorem PrsAt.kp {H H' : Hp} {a r : Addr} {ws : List Prs} {ys : List V} (h : PrsAt H a ws) (hr : H r = some (.lst ys)) (k : Kp r H H') (n : a ≠ r) : PrsAt H' a ws := by
  obtain ⟨vs, e, d⟩ := h
  exact ⟨vs, k _ _ e n, Dats.keep (k.tups hr) _ (imms_map _ imm_pD ws) d⟩
theorem eqv_pD (x y : Prs) : PyData.eqv (pD x) (pD y) = decide (x = y) := by
  obtain ⟨a, b⟩ := x
  obtain ⟨c, d⟩ := y
  simp only [pD, PyData.eqv, PyData.eqvAll, Bool.and_true]
  by_cases e1 : a = c
  · subst e1
    by_cases e2 : b = d
    · subst e2; simp
    · simp [e2]
  · simp [e1]
theorem shaped_prs (ps : List Prs) : SeqAt.shaped (.list (ps.map pD)) = true := shaped_list pD 1 (by decide) (fun x _ => rfl) (fun x _ => by show (max 0 (max 0 0)) + 1 ≤ 1; decide)
theorem prs_get {H : Hp} {vs : List V} {ps : List Prs} {i : Nat} {v : V} (d : Dats H vs (ps.map pD)) (e : vs[i]? = some v) : ∃ x t, ps[i]? = some x ∧ v = .ref t ∧ H t = some (.tup [.int x.1, .int x.2]) := by
  obtain ⟨q, eq, dq⟩ := d.get e
  rw [List.getElem?_map] at eq
  cases ex : ps[i]? with
  | none => rw [ex] at eq; cases eq
  | some x =>
    rw [ex] at eq
    cases eq
    obtain ⟨t, rfl, ht⟩ := dat_prs_inv dq
    exact ⟨x, t, rfl, rfl, ht⟩

/-! ### names of touches -/
/-- how many touches of the hand -/
def cnt (ws : List Tch) (h : Int) : Int := ((ws.filter fun x => decide (x.1 = h)).length : Int)
theorem cnt_snoc (ws : List Tch) (x : Tch) (h : Int) : cnt (ws ++ [x]) h = if h = x.1 then cnt ws h + 1 else cnt ws h := by
  unfold cnt
  rw [List.filter_append, List.length_append]
  by_cases e : h = x.1
  · subst e; simp
  · rw [if_neg e]
    have : ¬ x.1 = h := fun z => e z.symm
    simp [this]
def hnd (ws : List Tch) (i : Nat) : Int := match ws[i]? with | some x => x.1 | none => 0
theorem hnd_of {ws : List Tch} {i : Nat} {x : Tch} (h : ws[i]? = some x) : hnd ws i = x.1 := by unfold hnd; rw [h]
def nm (ws : List Tch) : List Prs := (List.range ws.length).map fun i => (hnd ws i, cnt (ws.take i) (hnd ws i))
theorem nm_snoc (ws : List Tch) (x : Tch) : nm (ws ++ [x]) = nm ws ++ [(x.1, cnt ws x.1)] := by
  unfold nm
  rw [List.length_append, List.length_singleton, List.range_succ, List.map_append]
  congr 1
  · refine List.map_congr_left fun i hi => ?_
    have hi' : i < ws.length := by simpa using hi
    unfold hnd
    rw [List.getElem?_append_left hi', List.take_append_of_le_length (by omega)]
  · simp [hnd]
theorem nm_length (ws : List Tch) : (nm ws).length = ws.length := by unfold nm; simp

theorem PrsAt.spr {H H' : Hp} {a r : Addr} {ws : List Prs} (h : PrsAt H a ws) (hr : SpringOk H r) (k : Kp r H H') (n : a ≠ r) : PrsAt H' a ws := by
  obtain ⟨f, t, c, e, _⟩ := hr
  exact h.kp e k n
def spNames (K : PySem.W.Frag) : Sp := fun vs H Q _ => ∃ (a : Addr) (ws : List Tch), vs = [.ref a] ∧ WebAt H a ws ∧ ws.length ≤ 1000 ∧ ∀ (r : Addr) (H' : Hp), H r = none → PrsAt H' r (nm ws) → Same H H' → Q (.ref r) H'
theorem ok_names {f : Addr} {fd : FuncData} (F : Fun K "names" "names" s_names f fd) : FnOk P w K mg base CX0 1 f fd ["web"] (spNames K) := by
  refine F.ok sc_names (fun vs H Q E h => ?_) (fun cdv A outer s H vs Q E hr h => ?_)
  · obtain ⟨a, ws, rfl, _⟩ := h
    rfl
  · obtain ⟨a, ws, rfl, W, hlen, k⟩ := h
    have hu := hu_of hr
    refine ⟨_, (pss_cons (ps_set (i := 1) sc_names.nd rfl (Or.inl rfl) pe_dnewK)
      (pss_cons (ps_set (i := 2) sc_names.nd rfl (Or.inl rfl) (pe_lst pa_nil))
      (pss_cons (ps_for PassesOwn.never rfl (pi_listK (K := K) rfl (pv 0)) (pg_name (i := 3) sc_names.nd rfl (Or.inl rfl))
      (pss_cons (ps_set (i := 4) sc_names.nd rfl (Or.inl rfl) (pe_dget2 hu (pv 1) (pe_ix (ix_tupK (K := K) rfl) (pv 3) pe_int (fun _ _ => rfl)) pe_int ⟨rfl, rfl, rfl, rfl⟩))
      (pss_cons (ps_expr (pe_appendK (K := K) rfl (pv 2) (pa_cons (pe_tup (pa_cons (pe_ix (ix_tupK (K := K) rfl) (pv 3) pe_int (fun _ _ => rfl)) (pa_cons (pv 4) pa_nil))) pa_nil)))
      (pss_one (ps_dput hu (pv 1) (pe_ix (ix_tupK (K := K) rfl) (pv 3) pe_int (fun _ _ => rfl)) (pe_op op_add (pv 4) pe_int) rfl)))))
      (pss_one (ps_ret (pv 2)))))), ?_⟩
    obtain ⟨vs, ha, dv⟩ := id W
    have vlen : vs.length = ws.length := by rw [dv.length, List.length_map]
    intro d hd
    have sm1 := same_new (o := HO.dK []) hd
    refine ⟨(by show 0 ≤ sizeLine; decide), fun p hp => ?_⟩
    have sm2 := same_new (o := HO.lst []) hp
    have ndp : d ≠ p := ne_of_none upd_same hp
    have hp0 : H p = none := sm1.free hp
    refine ⟨_, rfl, a, rfl, ⟨_, SqL.of (sm2 _ _ (sm1 _ _ ha))⟩, for_list (K := K) (a := a) (xs := vs) (fun i σ H2 => ∃ (kvs : List (Key × V)) (x1 x2 : Option V), σ = [some (.ref a), some (.ref d), some (.ref p), x1, x2] ∧ Same H H2 ∧
      H2 d = some (.dK kvs) ∧ kvs.length ≤ i ∧ (∀ h : Int, (valV kvs (Sum.inl h)).getD (.int 0) = .int (cnt (ws.take i) h)) ∧ PrsAt H2 p (nm (ws.take i)))
      ⟨[], none, none, rfl, sm1.trans sm2, sm2 _ _ upd_same, Nat.zero_le _, fun h => rfl, ⟨[], upd_same, by simp only [List.take_zero, nm, List.length_nil, List.range_zero, List.map_nil, Dats]⟩⟩ (fun i σ H2 _ ⟨_, _, _, _, sm, _⟩ => SqL.of (sm _ _ ha)) ?_ ?_⟩
    · rintro i y σ H2 hi ⟨kvs, x1, x2, rfl, sm, hd2, kl, hval, PA⟩
      have hil : i < ws.length := by have := (List.getElem?_eq_some_iff.mp hi).1; omega
      obtain ⟨x, ex⟩ : ∃ x, ws[i]? = some x := ⟨ws[i], by simp [hil]⟩
      obtain ⟨dd, ed, dy⟩ := dv.get hi
      rw [List.getElem?_map, ex] at ed
      cases ed
      obtain ⟨t, rfl, ht⟩ := dat_tch_inv dy
      have ht2 : H2 t = some (.tup [.int x.1, .str x.2.1, .int x.2.2]) := sm.tups _ _ ht
      have tk : ws.take (i + 1) = ws.take i ++ [x] := by rw [List.take_add_one, ex]; rfl
      have tlen : (ws.take i).length = i := by rw [List.length_take]; omega
      -- k = counts.get(touch[0], 0)
      refine ⟨_, rfl, d, rfl, .inl ⟨_, .inl hd2⟩, _, rfl, _, _, _, _, rfl, rfl, SqT.of ht2, rfl, _, DGet.k (k := Sum.inl x.1) hd2, ?_⟩
      rw [hval x.1]
      -- told.append((touch[0], k))
      obtain ⟨ts, hts, dts⟩ := id PA
      refine ⟨_, rfl, .inl ⟨rfl, _, SqL.of hts⟩, _, rfl, _, _, _, _, rfl, rfl, SqT.of ht2, rfl, _, rfl, (by show 2 ≤ sizeLine; decide), fun q hq => ?_⟩
      have sm3 := same_new (o := HO.tup [V.int x.1, V.int (cnt (ws.take i) x.1)]) hq
      have hts3 := sm3 _ _ hts
      have tslen : ts.length = i := by rw [dts.length, List.length_map, nm_length, tlen]
      refine ⟨p, ts, _, rfl, rfl, hts3, (by rw [tslen, sizeLine_eq]; omega), ?_⟩
      have kset : Kp p (upd H2 q (HO.tup [V.int x.1, V.int (cnt (ws.take i) x.1)])) (upd (upd H2 q (HO.tup [V.int x.1, V.int (cnt (ws.take i) x.1)])) p (HO.lst (ts ++ [V.ref q]))) := Kp.set
      have hd4 := kset _ _ (sm3 _ _ hd2) ndp
      -- counts[touch[0]] = k + 1
      refine ⟨_, rfl, _, _, rfl, rfl, _, rfl, _, rfl, _, _, _, _, rfl, rfl, SqT.of (kset.tups hts3 _ _ (sm3.tups _ _ ht2)), rfl, d, _, rfl, DPut.k (k := Sum.inl x.1) hd4 (small1000 (by omega)), ?_⟩
      refine ⟨putK kvs (Sum.inl x.1) (V.int (cnt (ws.take i) x.1 + 1)), _, _, rfl, ?_, upd_same, ?_, fun h => ?_, ?_⟩
      · intro b o e
        have nb : b ≠ p := ne_of_none e hp0
        have nb2 : b ≠ d := ne_of_none e hd
        rw [upd_ne nb2]
        exact kset b o (sm3 b o (sm b o e)) nb
      · exact Nat.le_trans (length_putK ..) (by omega)
      · rw [valV_put, tk, cnt_snoc]
        by_cases e : h = x.1
        · subst e
          rw [if_pos rfl, if_pos rfl]; rfl
        · rw [if_neg (fun z => e (Sum.inl.inj z)), if_neg e]
          exact hval h
      · rw [tk, nm_snoc]
        have kd2 : Kp d (upd (upd H2 q (HO.tup [V.int x.1, V.int (cnt (ws.take i) x.1)])) p (HO.lst (ts ++ [V.ref q]))) (upd (upd (upd H2 q (HO.tup [V.int x.1, V.int (cnt (ws.take i) x.1)])) p (HO.lst (ts ++ [V.ref q]))) d (HO.dK (putK kvs (Sum.inl x.1) (V.int (cnt (ws.take i) x.1 + 1))))) := Kp.set
        have tups2 : ∀ a xs, (upd H2 q (HO.tup [V.int x.1, V.int (cnt (ws.take i) x.1)])) a = some (HO.tup xs) → (upd (upd (upd H2 q (HO.tup [V.int x.1, V.int (cnt (ws.take i) x.1)])) p (HO.lst (ts ++ [V.ref q]))) d (HO.dK (putK kvs (Sum.inl x.1) (V.int (cnt (ws.take i) x.1 + 1))))) a = some (HO.tup xs) := fun a xs hx =>
          kd2.tups' hd4 _ _ (kset.tups hts3 _ _ hx)
        refine ⟨_, kd2 _ _ upd_same ndp.symm, ?_⟩
        rw [List.map_append]
        refine Dats.append (Dats.keep (fun a xs hx => tups2 a xs (sm3.tups _ _ hx)) _ (imms_map _ imm_pD _) dts) (dats_one (dat_prs (x := (x.1, cnt (ws.take i) x.1)) ?_))
        exact kd2 _ _ (kset _ _ upd_same (ne_of upd_same hts3 (by intro z; cases z))) (ne_of (kset _ _ upd_same (ne_of upd_same hts3 (by intro z; cases z))) hd4 (by intro z; cases z))
    · rintro σ H2 ⟨kvs, x1, x2, rfl, sm, hd2, kl, hval, PA⟩
      rw [vlen, List.take_length] at PA
      exact ⟨_, rfl, k p H2 hp0 PA sm⟩

def mt (x y : Tch) : Bool := if x.1 = y.1 then false else if x.2.2 = y.2.2 then (if x.2.1 = "load" then !decide (y.2.1 = "load") else true) else false
def spWh (K : PySem.W.Frag) : Sp := fun vs H Q _ => ∃ i : Int, vs = [.int i] ∧ Q (.bl true) H
theorem ok_is_whole {f : Addr} {fd : FuncData} (F : Fun K "is_whole" "is_whole" s_is_whole f fd) (Bt : Blt mg) : FnOk P w K mg base CX0 1 f fd ["value"] (spWh K) := by
  refine F.ok sc_is_whole (fun vs H Q E h => ?_) (fun cdv A outer s H vs Q E hr h => ?_)
  · obtain ⟨i, rfl, _⟩ := h
    rfl
  · obtain ⟨i, rfl, k⟩ := h
    refine ⟨_, (pss_one (ps_ret (pe_and (pe_callB (call_isiK (K := K) (cv := .ty "int") (c := .type "int") rfl rfl) (by rfl) Bt.b_isinstance bt_isinstance (pa_cons (pv 0) (pa_cons (pe_bltn (v := .ty "int") (by rfl) Bt.b_int bt_int rfl) pa_nil))) (pe_one (pe_not (pe_callB (call_isiK (K := K) (cv := .ty "bool") (c := .type "bool") rfl rfl) (by rfl) Bt.b_isinstance bt_isinstance (pa_cons (pv 0) (pa_cons (pe_bltn (v := .ty "bool") (by rfl) Bt.b_bool bt_bool rfl) pa_nil)))))))), ?_⟩
    refine ⟨_, rfl, _, _, true, rfl, .int i, isi_int_int K, true, rfl, ?_⟩
    refine iteT ?_
    exact ⟨_, rfl, _, _, false, rfl, .int i, isi_int_bool K, false, rfl, k⟩
def spMt (K : PySem.W.Frag) : Sp := fun vs H Q _ => ∃ (a b : Addr) (x y : Tch), vs = [.ref a, .ref b] ∧ H a = some (.tup [.int x.1, .str x.2.1, .int x.2.2]) ∧ H b = some (.tup [.int y.1, .str y.2.1, .int y.2.2]) ∧ Q (.bl (mt x y)) H
theorem mt_read {K : PySem.W.Frag} {a b : Addr} {x y : Tch} {H : Hp} {Q : VK} (ha : H a = some (.tup [.int x.1, .str x.2.1, .int x.2.2])) (hb : H b = some (.tup [.int y.1, .str y.2.1, .int y.2.2])) (k : Q (.bl (mt x y)) H) {D : Ends} (hD : D.rt = Q) :
    (tSeq (tIfS (tOr (tTest (tOp rEq (tOp (rIxT K) (tVar 0) (tC (.int 0))) (tOp (rIxT K) (tVar 1) (tC (.int 0))))) (tTest (tOp rNe (tOp (rIxT K) (tVar 0) (tC (.int 2))) (tOp (rIxT K) (tVar 1) (tC (.int 2)))))) (tRet (tC (.bl false))) tNext)
      (tRet (tOrV (tOp rNe (tOp (rIxT K) (tVar 0) (tC (.int 1))) (tC (.str "load"))) (tOp rNe (tOp (rIxT K) (tVar 1) (tC (.int 1))) (tC (.str "load")))))) D [some (.ref a), some (.ref b)] H := by
  refine ⟨_, rfl, _, _, _, _, rfl, rfl, SqT.of ha, rfl, _, rfl, _, _, _, _, rfl, rfl, SqT.of hb, rfl, rfl, _, rfl, ?_⟩
  refine ite2 (fun h1 => ?_) (fun h1 => ?_)
  · have e : x.1 = y.1 := by injection (of_decide_eq_true h1)
    have em : mt x y = false := by unfold mt; rw [if_pos e]
    refine (show D.rt (.bl false) H from ?_)
    rw [hD, ← em]
    exact k
  · have e : ¬ x.1 = y.1 := fun z => h1 (decide_eq_true (by rw [z]))
    refine ⟨_, rfl, _, _, _, _, rfl, rfl, SqT.of ha, rfl, _, rfl, _, _, _, _, rfl, rfl, SqT.of hb, rfl, rfl, _, rfl, ?_⟩
    by_cases e2 : x.2.2 = y.2.2
    · refine iteNS (by rw [e2]) ?_
      refine ⟨_, rfl, _, _, _, _, rfl, rfl, SqT.of ha, rfl, rfl, _, rfl, ?_⟩
      by_cases e3 : x.2.1 = "load"
      · refine iteNS (by rw [e3]) ?_
        refine ⟨_, rfl, _, _, _, _, rfl, rfl, SqT.of hb, rfl, rfl, ?_⟩
        have em : mt x y = !decide (V.str y.2.1 = V.str "load") := by
          unfold mt
          rw [if_neg e, if_pos e2, if_pos e3]
          congr 1
          rw [Bool.eq_iff_iff, decide_eq_true_iff, decide_eq_true_iff]
          exact ⟨fun z => by rw [z], fun z => by injection z⟩
        rw [← em, hD]
        exact k
      · have ne : ¬ V.str x.2.1 = V.str "load" := fun z => e3 (by injection z)
        rw [decide_eq_false ne]
        refine iteT ?_
        have em : mt x y = true := by unfold mt; rw [if_neg e, if_pos e2, if_neg e3]
        rw [← em, hD]
        exact k
    · have ne : ¬ V.int x.2.2 = V.int y.2.2 := fun z => e2 (by injection z)
      rw [decide_eq_false ne]
      refine iteT ?_
      have em : mt x y = false := by unfold mt; rw [if_neg e, if_neg e2]
      refine (show D.rt (.bl false) H from ?_)
      rw [hD, ← em]
      exact k
theorem ok_touches_meet {f : Addr} {fd : FuncData} (F : Fun K "touches_meet" "touches_meet" s_touches_meet f fd) : FnOk P w K mg base CX0 1 f fd ["one", "other"] (spMt K) := by
  refine F.ok sc_touches_meet (fun vs H Q E h => ?_) (fun cdv A outer s H vs Q E hr h => ?_)
  · obtain ⟨a, b, x, y, rfl, _⟩ := h
    rfl
  · obtain ⟨a, b, x, y, rfl, ha, hb, k⟩ := h
    exact ⟨_, (pss_cons (ps_if (PW.pt (pw_or (pt_cmpR op_eq (pe_ix (ix_tupK (K := K) rfl) (pv 0) pe_int (fun _ _ => rfl)) (pe_ix (ix_tupK (K := K) rfl) (pv 1) pe_int (fun _ _ => rfl)) (nomark _)) (pw_or1 (pt_cmpR op_ne (pe_ix (ix_tupK (K := K) rfl) (pv 0) pe_int (fun _ _ => rfl)) (pe_ix (ix_tupK (K := K) rfl) (pv 1) pe_int (fun _ _ => rfl)) (nomark _))))) (pss_one (ps_ret pe_bl)) pss_nil)
      (pss_one (ps_ret (pe_or (pe_cmpR op_ne (pe_ix (ix_tupK (K := K) rfl) (pv 0) pe_int (fun _ _ => rfl)) pe_str (nomark _)) (pe_one (pe_cmpR op_ne (pe_ix (ix_tupK (K := K) rfl) (pv 1) pe_int (fun _ _ => rfl)) pe_str (nomark _))))))), mt_read (K := K) ha hb k rfl⟩
theorem ok_Lmeets {f : Addr} {fd : FuncData} (F : Fun K "_law_meets" "_law_meets" s_Lmeets f fd) : FnOk P w K mg base CX0 1 f fd ["one", "other"] (spMt K) := by
  refine F.ok sc_Lmeets (fun vs H Q E h => ?_) (fun cdv A outer s H vs Q E hr h => ?_)
  · obtain ⟨a, b, x, y, rfl, _⟩ := h
    rfl
  · obtain ⟨a, b, x, y, rfl, ha, hb, k⟩ := h
    exact ⟨_, (pss_cons (ps_if (PW.pt (pw_or (pt_cmpR op_eq (pe_ix (ix_tupK (K := K) rfl) (pv 0) pe_int (fun _ _ => rfl)) (pe_ix (ix_tupK (K := K) rfl) (pv 1) pe_int (fun _ _ => rfl)) (nomark _)) (pw_or1 (pt_cmpR op_ne (pe_ix (ix_tupK (K := K) rfl) (pv 0) pe_int (fun _ _ => rfl)) (pe_ix (ix_tupK (K := K) rfl) (pv 1) pe_int (fun _ _ => rfl)) (nomark _))))) (pss_one (ps_ret pe_bl)) pss_nil)
      (pss_one (ps_ret (pe_or (pe_cmpR op_ne (pe_ix (ix_tupK (K := K) rfl) (pv 0) pe_int (fun _ _ => rfl)) pe_str (nomark _)) (pe_one (pe_cmpR op_ne (pe_ix (ix_tupK (K := K) rfl) (pv 1) pe_int (fun _ _ => rfl)) pe_str (nomark _))))))), mt_read (K := K) ha hb k rfl⟩

/-! ### the law's calls, steps and table -/
def spCalls (K : PySem.W.Frag) : Sp := fun vs H Q _ => ∃ (a : Addr) (ws : List Tch), vs = [.ref a] ∧ WebAt H a ws ∧ (∀ x ∈ ws, TchOk x) ∧ ws.length ≤ 300 ∧ ∀ (r : Addr) (H' : Hp), H r = none → PrsAt H' r (nm ws) → Same H H' → Q (.ref r) H'
theorem rep8 : (List.replicate ((8 : Int)).toNat [V.int 0]).flatten = (List.replicate 8 (0 : Int)).map V.int := rfl
theorem ok_calls {f : Addr} {fd : FuncData} (F : Fun K "_law_calls" "_law_calls" s_Lcalls f fd) (Bt : Blt mg) : FnOk P w K mg base CX0 1 f fd ["web"] (spCalls K) := by
  refine F.ok sc_Lcalls (fun vs H Q E h => ?_) (fun cdv A outer s H vs Q E hr h => ?_)
  · obtain ⟨a, ws, rfl, _⟩ := h
    rfl
  · obtain ⟨a, ws, rfl, W, ok, wl, k⟩ := h
    obtain ⟨vs, ha, dv⟩ := id W
    have vlen : vs.length = ws.length := by rw [dv.length, List.length_map]
    refine ⟨_, (pss_cons (ps_set (i := 1) sc_Lcalls.nd rfl (Or.inl rfl) (pe_op op_rep (pe_lst (pa_cons pe_int pa_nil)) pe_int))
      (pss_cons (ps_set (i := 2) sc_Lcalls.nd rfl (Or.inl rfl) (pe_lst pa_nil))
      (pss_cons (ps_for PassesOwn.never rfl (pi_listK (K := K) rfl (pv 0)) (pg_tupK (K := K) (n := 3) rfl rfl (pgs_cons (pg_name (i := 3) sc_Lcalls.nd rfl (Or.inl rfl)) (pgs_cons (pg_name (i := 4) sc_Lcalls.nd rfl (Or.inl rfl)) (pgs_cons (pg_name (i := 5) sc_Lcalls.nd rfl (Or.inl rfl)) pgs_nil))))
      (pss_cons (ps_expr (pe_appendK (K := K) rfl (pv 2) (pa_cons (pe_tup (pa_cons (pv 3) (pa_cons (pe_ix (ix_listK (K := K) rfl) (pv 1) (pv 3) (fun _ _ => rfl)) pa_nil))) pa_nil)))
      (pss_one (ps_asg (pe_op op_add (pe_ix (ix_listK (K := K) rfl) (pv 1) (pv 3) (fun _ _ => rfl)) pe_int) (pg_sub (pv 1) (pv 3) set_list)))))
      (pss_one (ps_ret (pv 2)))))), ?_⟩
    refine ⟨(by show 1 ≤ sizeLine; decide), fun l hl => ?_⟩
    have s1 := same_new (o := HO.lst [V.int 0]) hl
    refine ⟨l, _, _, rfl, rfl, upd_same, by decide, by decide, by rw [sizeLine_eq]; simp, fun m hm => ?_⟩
    rw [rep8]
    have s2 := same_new (o := HO.lst ((List.replicate 8 (0 : Int)).map V.int)) hm
    have s12 := s1.trans s2
    have hm0 : H m = none := s1.free hm
    refine ⟨(by show 0 ≤ sizeLine; decide), fun r hr' => ?_⟩
    have s3 := same_new (o := HO.lst []) hr'
    have s13 := s12.trans s3
    have hr0 : H r = none := s12.free hr'
    have nmr : m ≠ r := ne_of_none upd_same hr'
    refine ⟨_, rfl, a, rfl, ⟨_, SqL.of (s13 _ _ ha)⟩, ?_⟩
    refine for_list (K := K) (a := a) (xs := vs) (fun i σ H2 => ∃ (ms : List Int) (x1 x2 x3 : Option V), σ = [some (.ref a), some (.ref m), some (.ref r), x1, x2, x3] ∧ Same H H2 ∧ H2 m = some (.lst (ms.map V.int)) ∧ ms.length = 8 ∧ (∀ h : Int, 0 ≤ h → h < 8 → gI ms h = cnt (ws.take i) h) ∧ PrsAt H2 r (nm (ws.take i)))
      ⟨List.replicate 8 0, none, none, none, rfl, s13, s3 _ _ upd_same, by simp, fun h h0 h1 => ?_, ⟨[], upd_same, by simp only [List.take_zero, nm, List.length_nil, List.range_zero, List.map_nil, Dats]⟩⟩ (fun i σ H2 _ ⟨_, _, _, _, _, sm, _⟩ => SqL.of (sm _ _ ha)) ?_ ?_
    · have : gI (List.replicate 8 0) h = 0 := by unfold gI; rw [List.getElem?_replicate]; split <;> rfl
      rw [this]; rfl
    · rintro i y σ H2 hi ⟨ms, x1, x2, x3, rfl, sm, hm2, ml, hg, PA⟩
      have hil : i < ws.length := by have := (List.getElem?_eq_some_iff.mp hi).1; omega
      obtain ⟨x, ex⟩ : ∃ x, ws[i]? = some x := ⟨ws[i], by simp [hil]⟩
      obtain ⟨dd, ed, dy⟩ := dv.get hi
      rw [List.getElem?_map, ex] at ed
      cases ed
      obtain ⟨t, rfl, ht⟩ := dat_tch_inv dy
      obtain ⟨⟨x0, x1'⟩, _⟩ := ok x (List.mem_of_getElem? ex)
      have tk : ws.take (i + 1) = ws.take i ++ [x] := by rw [List.take_add_one, ex]; rfl
      have tlen : (ws.take i).length = i := by rw [List.length_take]; omega
      have gx := hg x.1 x0 x1'
      refine ⟨t, _, rfl, SqT.of (sm _ _ ht), rfl, _, _, rfl, _, _, rfl, _, _, rfl, rfl, ?_⟩
      obtain ⟨ts, hts, dts⟩ := id PA
      have tsl : ts.length = i := by rw [dts.length, List.length_map, nm_length, tlen]
      refine ⟨_, rfl, .inl ⟨rfl, _, SqL.of hts⟩, _, rfl, _, rfl, _, rfl, _, _, _, _, rfl, rfl, SqL.of hm2, atI_gI x0 (by omega), (by show 2 ≤ sizeLine; decide), fun q hq => ?_⟩
      have s4 := same_new (o := HO.tup [V.int x.1, V.int (gI ms x.1)]) hq
      refine ⟨r, ts, _, rfl, rfl, s4 _ _ hts, by rw [sizeLine_eq]; omega, ?_⟩
      have k5 : Kp r (upd H2 q (.tup [V.int x.1, V.int (gI ms x.1)])) (upd (upd H2 q (.tup [V.int x.1, V.int (gI ms x.1)])) r (.lst (ts ++ [V.ref q]))) := Kp.set
      have t5 := k5.tups (s4 _ _ hts)
      have hm5 := k5 _ _ (s4 _ _ hm2) nmr
      refine ⟨_, rfl, _, rfl, _, _, _, _, rfl, rfl, SqL.of hm5, atI_gI x0 (by omega), _, _, rfl, rfl, _, rfl, _, rfl, _, _, _, _, rfl, rfl, hm5, ixN_nat x0 (by rw [List.length_map]; omega), ?_⟩
      have k6 : Kp m (upd (upd H2 q (.tup [V.int x.1, V.int (gI ms x.1)])) r (.lst (ts ++ [V.ref q]))) (upd (upd (upd H2 q (.tup [V.int x.1, V.int (gI ms x.1)])) r (.lst (ts ++ [V.ref q]))) m (.lst ((ms.map V.int).set x.1.toNat (V.int (gI ms x.1 + 1))))) := Kp.set
      have t6 := k6.tups hm5
      refine ⟨ms.set x.1.toNat (gI ms x.1 + 1), _, _, _, rfl, fun b u e => k6 _ _ (k5 _ _ (s4 _ _ (sm _ _ e)) (ne_of_none e hr0)) (ne_of_none e hm0), by rw [upd_same, List.map_set], by simp [ml], fun h h0 h1 => ?_, ?_⟩
      · rw [gI_set x0 (by omega) h0, tk, cnt_snoc]
        by_cases e : h = x.1
        · subst e; rw [if_pos rfl, if_pos rfl, gx]
        · rw [if_neg e, if_neg e]; exact hg h h0 h1
      · rw [tk, nm_snoc]
        refine ⟨ts ++ [V.ref q], k6 _ _ upd_same nmr.symm, ?_⟩
        rw [List.map_append]
        refine Dats.append (Dats.keep (fun a xs h => t6 _ _ (t5 _ _ (s4.tups _ _ h))) _ (imms_map _ imm_pD _) dts) (dats_one (dat_prs (x := (x.1, cnt (ws.take i) x.1)) ?_))
        have := t6 _ _ (t5 _ _ (upd_same (H := H2) (a := q) (o := HO.tup [V.int x.1, V.int (gI ms x.1)])))
        rw [gx] at this
        rw [gx]
        exact this
    · rintro σ H2 ⟨ms, x1, x2, x3, rfl, sm, hm2, ml, hg, PA⟩
      rw [vlen, List.take_length] at PA
      exact ⟨_, rfl, k r H2 hr0 PA sm⟩

theorem atI0 {vs : List V} {i : Nat} {v : V} (h : vs[i]? = some v) : atI vs (0 + (i : Int)) = some v := by rw [Int.zero_add]; exact atI_nat h
theorem nm_get {ws : List Tch} {i : Nat} {x : Tch} (e : ws[i]? = some x) : (nm ws)[i]? = some (x.1, cnt (ws.take i) x.1) := by
  have : i < ws.length := (List.getElem?_eq_some_iff.mp e).1
  unfold nm
  rw [List.getElem?_map, List.getElem?_range this]
  simp only [Option.map_some, hnd_of e]
theorem prs_at {H : Hp} {a : Addr} {ps : List Prs} {i : Nat} {x : Prs} (h : PrsAt H a ps) (e : ps[i]? = some x) : ∃ vs t, H a = some (.lst vs) ∧ vs[i]? = some (.ref t) ∧ H t = some (.tup [.int x.1, .int x.2]) := by
  obtain ⟨vs, ha, d⟩ := h
  obtain ⟨v, ev, dv⟩ := d.getD (i := i) (d := pD x) (by rw [List.getElem?_map, e]; rfl)
  obtain ⟨t, rfl, ht⟩ := dat_prs_inv dv
  exact ⟨vs, t, ha, ev, ht⟩

/-! ### cuts -/
def spIsNote (K : PySem.W.Frag) : Sp := fun vs H Q _ => ∃ (t : Addr) (x : Nt), vs = [.ref t] ∧ H t = some (.tup (nV x)) ∧ ∀ H', Same H H' → Q (.bl (!decide (x.1 = x.2.2.1))) H'
theorem ok_is_note {f : Addr} {fd : FuncData} (F : Fun K "is_note" "is_note" s_is_note f fd) (F_is_whole : FnAt P w K mg base 1 "is_whole" ["value"] (spWh K)) (Bt : Blt mg) : FnOk P w K mg base CX0 2 f fd ["value"] (spIsNote K) := by
  refine F.ok sc_is_note (fun vs H Q E h => ?_) (fun cdv A outer s H vs Q E hr h => ?_)
  · obtain ⟨t, x, rfl, _⟩ := h
    rfl
  · obtain ⟨t, x, rfl, ht, k⟩ := h
    have hu64 := hr.units
    refine ⟨_, (pss_cons (ps_if (PW.pt (pw_or (pt_not (pt_val (pe_callB (call_isiK (K := K) (cv := .ty "tuple") (c := .type "tuple") rfl rfl) (by rfl) Bt.b_isinstance bt_isinstance (pa_cons (pv 0) (pa_cons (pe_bltn (v := .ty "tuple") (by rfl) Bt.b_tuple bt_tuple rfl) pa_nil))))) (pw_or1 (pt_cmpR op_ne (pe_callB (call_len_seqK (K := K) rfl) (by rfl) Bt.b_len bt_len (pa_cons (pv 0) pa_nil)) pe_int (nomark _))))) (pss_one (ps_ret pe_bl)) pss_nil)
      (pss_one (ps_ret (pe_and (pe_callB (call_all_boolsK (K := K) rfl rfl) (by rfl) Bt.b_all bt_all (pa_cons (pe_comp rfl (N := ["number"]) (own := ["number"]) (caps := []) (CompScope.of (by kernel_rfl)) (pi_tupK (K := K) rfl (pv 0)) (fun _ _ _ _ => (pg_name (i := 0) (show List.Nodup (["number"] : List Str) by decide +kernel) rfl (Or.inl rfl))) (fun _ _ _ _ => pts_nil) (fun _ _ _ _ => (pe_fn F_is_whole (hr.mono (by decide)) (by rfl) (pa_cons (pv 0) pa_nil)))) pa_nil)) (pe_one (pe_cmpR op_ne (pe_ix (ix_tupK (K := K) rfl) (pv 0) pe_int (fun _ _ => rfl)) (pe_ix (ix_tupK (K := K) rfl) (pv 0) pe_int (fun _ _ => rfl)) (nomark _))))))), ?_⟩
    refine ⟨_, rfl, _, _, true, rfl, .tup ht, isi_tuple_tuple K, true, rfl, ?_⟩
    refine iteF ?_
    refine ⟨_, rfl, t, _, rfl, .inr (SqT.of ht), rfl, _, rfl, ?_⟩
    refine iteNS (by rfl) ?_
    refine ⟨_, rfl, t, rfl, ⟨_, SqT.of ht⟩, fun D hD => ?_⟩
    refine comp_valT (K := K) (fun i => some (.bl true)) hD ht (by show 4 ≤ 100000; decide) (fun i v H2 G F hi s2 kG kF => ?_) (fun H2 s2 e2 => ?_)
    · obtain ⟨z, rfl⟩ : ∃ z, v = V.int z := by
        have hm := List.mem_of_getElem? hi
        simp only [nV, List.mem_cons, List.not_mem_nil, or_false] at hm
        rcases hm with rfl | rfl | rfl | rfl <;> exact ⟨_, rfl⟩
      exact ⟨_, rfl, z, rfl, kF _ H2 (Same.refl _) rfl⟩
    · refine ⟨D, [true, true, true, true], rfl, SqL.of e2, true, rfl, ?_⟩
      refine iteT ?_
      refine ⟨_, rfl, _, _, _, _, rfl, rfl, SqT.of (s2 _ _ ht), rfl, _, rfl, _, _, _, _, rfl, rfl, SqT.of (s2 _ _ ht), rfl, rfl, ?_⟩
      have e : (!decide (V.int x.1 = V.int x.2.2.1)) = (!decide (x.1 = x.2.2.1)) := by
        by_cases q : x.1 = x.2.2.1
        · simp [q]
        · simp [q]
      show Q (.bl (!decide (V.int x.1 = V.int x.2.2.1))) H2
      rw [e]
      exact k H2 s2

/-! ### places by names, strict notes, wants -/
theorem cnt_mono {ws : List Tch} {m n : Nat} (h : m ≤ n) (g : Int) : cnt (ws.take m) g ≤ cnt (ws.take n) g := by
  have e : ws.take n = ws.take m ++ (ws.take n).drop m := by
    have := List.take_append_drop m (ws.take n)
    rw [List.take_take, Nat.min_eq_left h] at this
    exact this.symm
  unfold cnt
  rw [e, List.filter_append, List.length_append]
  omega
theorem nm_some {ws : List Tch} {i : Nat} {x : Prs} (h : (nm ws)[i]? = some x) : ∃ y, ws[i]? = some y ∧ x = (y.1, cnt (ws.take i) y.1) := by
  have il : i < ws.length := by have := (List.getElem?_eq_some_iff.mp h).1; rw [nm_length] at this; exact this
  have e : ws[i]? = some ws[i] := by simp [il]
  rw [nm_get e] at h
  exact ⟨ws[i], e, (Option.some.inj h).symm⟩
theorem nm_lt {ws : List Tch} {i j : Nat} {x : Prs} (hi : (nm ws)[i]? = some x) (hj : (nm ws)[j]? = some x) : ¬ i < j := fun lt => by
  obtain ⟨y, ey, e1⟩ := nm_some hi
  obtain ⟨z, ez, e2⟩ := nm_some hj
  rw [e1] at e2
  injection e2 with h1 h2
  have tk : ws.take (i + 1) = ws.take i ++ [y] := by rw [List.take_add_one, ey]; rfl
  have m := cnt_mono (ws := ws) (m := i + 1) (n := j) lt y.1
  rw [tk, cnt_snoc, if_pos rfl] at m
  rw [← h1] at h2
  omega
theorem nm_inj {ws : List Tch} {i j : Nat} {x : Prs} (hi : (nm ws)[i]? = some x) (hj : (nm ws)[j]? = some x) : i = j := by
  have := nm_lt hi hj
  have := nm_lt hj hi
  omega
def kx (x : Prs) : List Key := [Sum.inl x.1, Sum.inl x.2]
theorem kx_inj {x y : Prs} (h : kx x = kx y) : x = y := by
  unfold kx at h
  injection h with h1 h2
  injection h2 with h2 _
  have a : x.1 = y.1 := Sum.inl.inj h1
  have b : x.2 = y.2 := Sum.inl.inj h2
  exact Prod.ext a b
def PlOk (kvs : List (List Key × V)) (ps : List Prs) : Prop := (∀ (m : Nat) (x : Prs), ps[m]? = some x → valV kvs (kx x) = some (.int m)) ∧ ∀ x : Prs, x ∉ ps → valV kvs (kx x) = none
def spPlaces (K : PySem.W.Frag) : Sp := fun vs H Q _ => ∃ (a : Addr) (ws : List Tch), vs = [.ref a] ∧ WebAt H a ws ∧ ws.length ≤ 300 ∧ ∀ (d : Addr) (kvs : List (List Key × V)) (H' : Hp), H d = none → H' d = some (.dT kvs) → PlOk kvs (nm ws) → Same H H' → Q (.ref d) H'
theorem ok_places {f : Addr} {fd : FuncData} (F : Fun K "places_of" "places_of" s_places_of f fd) (F_names : FnAt P w K mg base 1 "names" ["web"] (spNames K)) (Bt : Blt mg) : FnOk P w K mg base CX0 2 f fd ["web"] (spPlaces K) := by
  refine F.ok sc_places_of (fun vs H Q E h => ?_) (fun cdv A outer s H vs Q E hr h => ?_)
  · obtain ⟨a, ws, rfl, _⟩ := h
    rfl
  · obtain ⟨a, ws, rfl, W, wl, k⟩ := h
    have hu := hu_of hr
    refine ⟨_, (pss_cons (ps_set (i := 1) sc_places_of.nd rfl (Or.inl rfl) pe_dnewT)
      (pss_cons (ps_for PassesOwn.never rfl (pi_enumK (K := K) rfl (by rfl) Bt.b_enumerate (pa_cons (pe_fn F_names (hr.mono (by decide)) (by rfl) (pa_cons (pv 0) pa_nil)) pa_nil)) (pg_tupK (K := K) (n := 2) rfl rfl (pgs_cons (pg_name (i := 2) sc_places_of.nd rfl (Or.inl rfl)) (pgs_cons (pg_name (i := 3) sc_places_of.nd rfl (Or.inl rfl)) pgs_nil)))
      (pss_one (ps_dput hu (pv 1) (pv 3) (pv 2) rfl)))
      (pss_one (ps_ret (pv 1))))), ?_⟩
    intro d hd
    have s1 := same_new (o := HO.dT []) hd
    refine ⟨_, rfl, a, ws, rfl, W.same s1, by omega, fun p H2 hp PA s2 => ?_⟩
    obtain ⟨vs, hp2, dv⟩ := id PA
    have vl : vs.length = ws.length := by rw [dv.length, List.length_map, nm_length]
    refine ⟨p, vs, rfl, SqL.of hp2, ?_⟩
    have ndp : d ≠ p := ne_of_none upd_same hp
    refine for_enum (K := K) (a := p) (xs := vs) (fun i σ H3 => ∃ (kvs : List (List Key × V)) (x1 x2 : Option V), σ = [some (.ref a), some (.ref d), x1, x2] ∧ H3 d = some (.dT kvs) ∧ kvs.length ≤ i ∧ PlOk kvs ((nm ws).take i) ∧ Kp d H2 H3)
      ⟨[], none, none, rfl, s2 _ _ upd_same, Nat.le_refl _, ⟨fun m x e => by simp at e, fun x _ => rfl⟩, Kp.refl _ _⟩ (fun i σ H3 _ ⟨_, _, _, _, _, _, _, kp⟩ => SqL.of (kp _ _ hp2 ndp.symm)) ?_ ?_
    · rintro i v σ H3 q hi ⟨kvs, x1, x2, rfl, hd3, kl, pl, kp⟩ hq
      obtain ⟨x, t, ex, rfl, ht⟩ := prs_get dv hi
      have il := (List.getElem?_eq_some_iff.mp hi).1
      have sq := same_new (o := HO.tup [V.int i, V.ref t]) hq
      have ht3 : H3 t = some (.tup [.int x.1, .int x.2]) := kp _ _ ht (ne_of ht (s2 _ _ upd_same) (by intro z; cases z))
      refine ⟨q, _, rfl, SqT.of upd_same, rfl, _, _, rfl, _, _, rfl, rfl, ?_⟩
      refine ⟨_, rfl, _, rfl, _, rfl, d, _, rfl, DPut.t (k := kx x) (sq _ _ hd3) (sq _ _ ht3) (by rw [sizeLine_eq]; omega), ?_⟩
      have tk : (nm ws).take (i + 1) = (nm ws).take i ++ [x] := by rw [List.take_add_one, ex]; rfl
      have tl : ((nm ws).take i).length = i := by rw [List.length_take, nm_length]; omega
      refine ⟨putK kvs (kx x) (V.int i), _, _, rfl, upd_same, ?_, ⟨fun m y e => ?_, fun y hy => ?_⟩, fun b o e nb => ?_⟩
      · exact Nat.le_trans (length_putK ..) (by omega)
      · rw [valV_put]
        rw [tk] at e
        by_cases hm : m < i
        · rw [List.getElem?_append_left (by omega)] at e
          have ne : ¬ kx y = kx x := fun z => by
            have z := kx_inj z
            subst z
            have e' : (nm ws)[m]? = some y := by rw [List.getElem?_take_of_lt hm] at e; exact e
            have := nm_inj e' ex
            omega
          rw [if_neg ne]
          exact pl.1 m y e
        · rw [List.getElem?_append_right (by omega), tl] at e
          have ml : m - i < 1 := (List.getElem?_eq_some_iff.mp e).1
          have : m = i := by omega
          subst this
          rw [Nat.sub_self] at e
          cases e
          rw [if_pos rfl]
      · rw [tk] at hy
        have n1 : y ∉ (nm ws).take i := fun z => hy (List.mem_append.mpr (.inl z))
        have n2 : y ≠ x := fun z => hy (List.mem_append.mpr (.inr (by rw [z]; simp)))
        rw [valV_put, if_neg (fun z => n2 (kx_inj z))]
        exact pl.2 y n1
      · rw [upd_ne nb]
        exact sq _ _ (kp _ _ e nb)
    · rintro σ H3 ⟨kvs, x1, x2, rfl, hd3, kl, pl, kp⟩
      have e : (nm ws).take vs.length = nm ws := by rw [vl, ← nm_length ws, List.take_length]
      rw [e] at pl
      exact ⟨_, rfl, k d kvs H3 hd hd3 pl fun b o eb => kp _ _ (s2 _ _ (s1 _ _ eb)) (ne_of_none eb hd)⟩
def n1 (x : Nt) : Prs := (x.1, x.2.1)
def n2 (x : Nt) : Prs := (x.2.2.1, x.2.2.2)
/-- a strict note of the web, between these places -/
def StrAt (ws : List Tch) (x : Nt) (i j : Nat) : Prop := x.1 ≠ x.2.2.1 ∧ (nm ws)[i]? = some (n1 x) ∧ (nm ws)[j]? = some (n2 x) ∧ i < j
def StrP (ws : List Tch) (x : Nt) : Prop := ∃ i j, StrAt ws x i j
def WantP (ws : List Tch) (x : Nt) : Prop := ∃ i j y z, StrAt ws x i j ∧ ws[i]? = some y ∧ ws[j]? = some z ∧ mt y z = true
theorem mem_get {α : Type} {x : α} {l : List α} (h : x ∈ l) : ∃ i : Nat, l[i]? = some x := List.getElem?_of_mem h
def spStrict (K : PySem.W.Frag) : Sp := fun vs H Q _ => ∃ (d t : Addr) (kvs : List (List Key × V)) (ws : List Tch) (x : Nt), vs = [.ref d, .ref t] ∧ H d = some (.dT kvs) ∧ PlOk kvs (nm ws) ∧ H t = some (.tup (nV x)) ∧ ∀ (bl : Bool) (H' : Hp), (bl = true ↔ StrP ws x) → Same H H' → Q (.bl bl) H'
theorem ok_strict {f : Addr} {fd : FuncData} (F : Fun K "is_strict" "is_strict" s_is_strict f fd) (F_is_note : FnAt P w K mg base 2 "is_note" ["value"] (spIsNote K)) : FnOk P w K mg base CX0 3 f fd ["places", "note"] (spStrict K) := by
  refine F.ok sc_is_strict (fun vs H Q E h => ?_) (fun cdv A outer s H vs Q E hr h => ?_)
  · obtain ⟨d, t, kvs, ws, x, rfl, _⟩ := h
    rfl
  · obtain ⟨d, t, kvs, ws, x, rfl, hd, pl, ht, k⟩ := h
    have hu := hu_of hr
    refine ⟨_, (pss_cons (ps_if (PW.pt (pw_or (pt_not (pt_val (pe_fn F_is_note (hr.mono (by decide)) (by rfl) (pa_cons (pv 1) pa_nil)))) (pw_or (pt_cmp (pc_dnotin hu (pe_slice (sl_tupK (K := K) rfl) (pv 1) po_none (po_some pe_int)) (pv 0))) (pw_or1 (pt_cmp (pc_dnotin hu (pe_slice (sl_tupK (K := K) rfl) (pv 1) (po_some pe_int) po_none) (pv 0))))))) (pss_one (ps_ret pe_bl)) pss_nil)
      (pss_one (ps_ret (pe_cmpR op_lt (pe_dget hu (pv 0) (pe_slice (sl_tupK (K := K) rfl) (pv 1) po_none (po_some pe_int)) (fun _ _ => rfl)) (pe_dget hu (pv 0) (pe_slice (sl_tupK (K := K) rfl) (pv 1) (po_some pe_int) po_none) (fun _ _ => rfl)) (nomark _))))), ?_⟩
    refine ⟨_, rfl, t, x, rfl, ht, fun H1 s1 => ⟨_, rfl, ?_⟩⟩
    have ht1 := s1 _ _ ht
    have hd1 := s1 _ _ hd
    have no : ∀ {H' : Hp}, Same H1 H' → ¬ StrP ws x → Q (.bl false) H' := fun sm z => k false _ ⟨fun w => (by cases w), fun w => absurd w z⟩ (s1.trans sm)
    by_cases hne : x.1 = x.2.2.1
    · rw [show (!decide (x.1 = x.2.2.1)) = false by simp [hne]]
      exact iteT (no (Same.refl _) fun ⟨_, _, z, _⟩ => z hne)
    rw [show (!decide (x.1 = x.2.2.1)) = true by simp [hne]]
    refine iteF ?_
    refine ⟨_, rfl, _, rfl, _, _, rfl, SqT.of ht1, part4a _ rfl, fun p1 hp1 => ?_⟩
    rw [show cutV (nV x) none (some 2) = [.int x.1, .int x.2.1] from cut4a ..]
    have s2 := same_new (o := HO.tup [V.int x.1, V.int x.2.1]) hp1
    refine ⟨_, rfl, d, _, rfl, DGet.t (k := kx (n1 x)) (s2 _ _ hd1) upd_same, _, rfl, ?_⟩
    by_cases m1 : n1 x ∈ nm ws
    rotate_left
    · rw [pl.2 _ m1]
      exact iteT (no s2 fun ⟨i, j, _, z, _⟩ => m1 (List.mem_of_getElem? z))
    obtain ⟨i, ei⟩ := mem_get m1
    rw [pl.1 i _ ei]
    refine iteF ?_
    have ht2 := s2 _ _ ht1
    have hd2 := s2 _ _ hd1
    refine ⟨_, rfl, _, rfl, _, _, rfl, SqT.of ht2, part4b _ rfl, fun p2 hp2 => ?_⟩
    rw [show cutV (nV x) (some 2) none = [.int x.2.2.1, .int x.2.2.2] from cut4b ..]
    have s3 := same_new (o := HO.tup [V.int x.2.2.1, V.int x.2.2.2]) hp2
    have s23 := s2.trans s3
    refine ⟨_, rfl, d, _, rfl, DGet.t (k := kx (n2 x)) (s3 _ _ hd2) upd_same, _, rfl, ?_⟩
    by_cases m2 : n2 x ∈ nm ws
    rotate_left
    · rw [pl.2 _ m2]
      exact iteT (no s23 fun ⟨i, j, _, _, z, _⟩ => m2 (List.mem_of_getElem? z))
    obtain ⟨j, ej⟩ := mem_get m2
    rw [pl.1 j _ ej]
    refine iteF ?_
    refine ⟨_, rfl, _, rfl, _, rfl, _, _, rfl, SqT.of (s3 _ _ ht2), part4a _ rfl, fun p3 hp3 => ?_⟩
    rw [show cutV (nV x) none (some 2) = [.int x.1, .int x.2.1] from cut4a ..]
    have s4 := same_new (o := HO.tup [V.int x.1, V.int x.2.1]) hp3
    have s24 := s23.trans s4
    refine ⟨d, _, rfl, pl.1 i _ ei ▸ DGet.t (k := kx (n1 x)) (s24 _ _ hd1) upd_same, ?_⟩
    refine ⟨_, rfl, _, rfl, _, rfl, _, _, rfl, SqT.of (s24 _ _ ht1), part4b _ rfl, fun p4 hp4 => ?_⟩
    rw [show cutV (nV x) (some 2) none = [.int x.2.2.1, .int x.2.2.2] from cut4b ..]
    have s5 := same_new (o := HO.tup [V.int x.2.2.1, V.int x.2.2.2]) hp4
    have s25 := s24.trans s5
    refine ⟨d, _, rfl, pl.1 j _ ej ▸ DGet.t (k := kx (n2 x)) (s25 _ _ hd1) upd_same, _, _, rfl, rfl, ?_⟩
    refine k _ _ ?_ (s1.trans s25)
    rw [decide_eq_true_iff]
    constructor
    · intro z
      exact ⟨i, j, hne, ei, ej, by omega⟩
    · rintro ⟨i', j', _, a, b, c⟩
      have := nm_inj a ei
      have := nm_inj b ej
      omega
def spIsWant (K : PySem.W.Frag) : Sp := fun vs H Q _ => ∃ (a d t : Addr) (kvs : List (List Key × V)) (ws : List Tch) (x : Nt), vs = [.ref a, .ref d, .ref t] ∧ WebAt H a ws ∧ H d = some (.dT kvs) ∧ PlOk kvs (nm ws) ∧ H t = some (.tup (nV x)) ∧ ∀ (bl : Bool) (H' : Hp), (bl = true ↔ WantP ws x) → Same H H' → Q (.bl bl) H'
theorem ok_isWant {f : Addr} {fd : FuncData} (F : Fun K "is_want" "is_want" s_is_want f fd) (F_is_strict : FnAt P w K mg base 3 "is_strict" ["places", "note"] (spStrict K)) (F_touches_meet : FnAt P w K mg base 1 "touches_meet" ["one", "other"] (spMt K)) : FnOk P w K mg base CX0 4 f fd ["web", "places", "note"] (spIsWant K) := by
  refine F.ok sc_is_want (fun vs H Q E h => ?_) (fun cdv A outer s H vs Q E hr h => ?_)
  · obtain ⟨a, d, t, kvs, ws, x, rfl, _⟩ := h
    rfl
  · obtain ⟨a, d, t, kvs, ws, x, rfl, W, hd, pl, ht, k⟩ := h
    have hu := hu_of hr
    refine ⟨_, (pss_one (ps_ret (pe_and (pe_fn F_is_strict (hr.mono (by decide)) (by rfl) (pa_cons (pv 1) (pa_cons (pv 2) pa_nil))) (pe_one (pe_fn F_touches_meet (hr.mono (by decide)) (by rfl) (pa_cons (pe_ix (ix_listK (K := K) rfl) (pv 0) (pe_dget hu (pv 1) (pe_slice (sl_tupK (K := K) rfl) (pv 2) po_none (po_some pe_int)) (fun _ _ => rfl)) (fun _ _ => rfl)) (pa_cons (pe_ix (ix_listK (K := K) rfl) (pv 0) (pe_dget hu (pv 1) (pe_slice (sl_tupK (K := K) rfl) (pv 2) (po_some pe_int) po_none) (fun _ _ => rfl)) (fun _ _ => rfl)) pa_nil))))))), ?_⟩
    refine ⟨_, rfl, _, rfl, d, t, kvs, ws, x, rfl, hd, pl, ht, fun bl H1 hbl s1 => ⟨_, rfl, ?_⟩⟩
    cases bl with
    | false =>
      refine iteF ?_
      exact k false H1 ⟨fun z => (by cases z), fun ⟨i, j, _, _, z, _⟩ => absurd (hbl.mpr ⟨i, j, z⟩) (by decide)⟩ s1
    | true =>
      refine iteT ?_
      obtain ⟨i, j, hne, ei, ej, lt⟩ := hbl.mp rfl
      obtain ⟨y, ey, _⟩ := nm_some ei
      obtain ⟨z, ez, _⟩ := nm_some ej
      have ht1 := s1 _ _ ht
      have hd1 := s1 _ _ hd
      refine ⟨_, rfl, _, rfl, _, rfl, _, rfl, _, _, rfl, SqT.of ht1, part4a _ rfl, fun p3 hp3 => ?_⟩
      rw [show cutV (nV x) none (some 2) = [.int x.1, .int x.2.1] from cut4a ..]
      have s4 := same_new (o := HO.tup [V.int x.1, V.int x.2.1]) hp3
      obtain ⟨vs4, q, hw4, eq4, hq4⟩ := web_get ((W.same s1).same s4) ey
      refine ⟨d, _, rfl, pl.1 i _ ei ▸ DGet.t (k := kx (n1 x)) (s4 _ _ hd1) upd_same, _, _, _, _, rfl, rfl, SqL.of hw4, atI_nat eq4, ?_⟩
      refine ⟨_, rfl, _, rfl, _, rfl, _, rfl, _, _, rfl, SqT.of (s4 _ _ ht1), part4b _ rfl, fun p4 hp4 => ?_⟩
      rw [show cutV (nV x) (some 2) none = [.int x.2.2.1, .int x.2.2.2] from cut4b ..]
      have s5 := same_new (o := HO.tup [V.int x.2.2.1, V.int x.2.2.2]) hp4
      have s45 := s4.trans s5
      obtain ⟨vs5, q5, hw5, eq5, hq5⟩ := web_get ((W.same s1).same s45) ez
      refine ⟨d, _, rfl, pl.1 j _ ej ▸ DGet.t (k := kx (n2 x)) (s45 _ _ hd1) upd_same, _, _, _, _, rfl, rfl, SqL.of hw5, atI_nat eq5, ?_⟩
      refine ⟨q, q5, y, z, rfl, s5 _ _ hq4, hq5, ?_⟩
      refine k _ _ ⟨fun w => ⟨i, j, y, z, ⟨hne, ei, ej, lt⟩, ey, ez, w⟩, ?_⟩ (s1.trans s45)
      rintro ⟨i', j', y', z', ⟨_, a1, a2, _⟩, b1, b2, b3⟩
      have e1 := nm_inj a1 ei
      have e2 := nm_inj a2 ej
      subst e1 e2
      rw [ey] at b1
      rw [ez] at b2
      cases b1
      cases b2
      exact b3
def mB (x y : Nt) : Bool := decide (x.1 = y.1 ∧ x.2.2.1 = y.2.2.1) && (decide (x.2.1 ≥ y.2.1) && decide (x.2.2.2 ≤ y.2.2.2))
def spHandsOf (K : PySem.W.Frag) : Sp := fun vs H Q _ => ∃ (t : Addr) (x : Nt), vs = [.ref t] ∧ H t = some (.tup (nV x)) ∧ ∀ p, H p = none → Q (.ref p) (upd H p (.tup [.int x.1, .int x.2.2.1]))
theorem ok_handsOf {f : Addr} {fd : FuncData} (F : Fun K "hands_of" "hands_of" s_hands_of f fd) : FnOk P w K mg base CX0 1 f fd ["note"] (spHandsOf K) := by
  refine F.ok sc_hands_of (fun vs H Q E h => ?_) (fun cdv A outer s H vs Q E hr h => ?_)
  · obtain ⟨t, x, rfl, _⟩ := h
    rfl
  · obtain ⟨t, x, rfl, ht, k⟩ := h
    refine ⟨_, (pss_one (ps_ret (pe_tup (pa_cons (pe_ix (ix_tupK (K := K) rfl) (pv 0) pe_int (fun _ _ => rfl)) (pa_cons (pe_ix (ix_tupK (K := K) rfl) (pv 0) pe_int (fun _ _ => rfl)) pa_nil))))), ?_⟩
    refine ⟨_, rfl, _, _, _, _, rfl, rfl, SqT.of ht, rfl, _, rfl, _, _, _, _, rfl, rfl, SqT.of ht, rfl, (by show 2 ≤ sizeLine; decide), fun p hp => k p hp⟩

/-! ### notes sorted by numbers -/
def nK (x : Nt) : List Int := [x.1, x.2.1, x.2.2.1, x.2.2.2]
theorem nK_map (x : Nt) : (nK x).map V.int = nV x := rfl
/-- by numbers, as tuples are compared -/
def NSrt (ns : List Nt) : Prop := ns.Pairwise fun x y => Tim.lexB (nK y) (nK x) = false
def vInt : V → Int
  | .int n => n
  | _ => 0
def tupK (H : Hp) (v : V) : List Int := match v with
  | .ref t => match H t with
    | some (.tup xs) => xs.map vInt
    | _ => []
  | _ => []
def toN : List Int → Nt
  | [a, b, c, d] => (a, b, c, d)
  | _ => (0, 0, 0, 0)
theorem tupK_nt {H : Hp} {t : Addr} {x : Nt} (h : H t = some (.tup (nV x))) : tupK H (.ref t) = nK x := by
  unfold tupK
  dsimp only
  rw [h]
  rfl
theorem toN_nK (x : Nt) : toN (nK x) = x := rfl
theorem nts_mem {H : Hp} {vs : List V} {ns : List Nt} (d : Dats H vs (ns.map nD)) {v : V} (hv : v ∈ vs) : ∃ t x, v = .ref t ∧ x ∈ ns ∧ H t = some (.tup (nV x)) := by
  obtain ⟨i, hi, e⟩ := List.getElem_of_mem hv
  obtain ⟨x, t, ex, ev, ht⟩ := nts_get d (i := i) (v := v) (by rw [List.getElem?_eq_getElem hi, e])
  exact ⟨t, x, ev, List.mem_of_getElem? ex, ht⟩
theorem nts_map {H : Hp} : ∀ {vs : List V} {ns : List Nt}, Dats H vs (ns.map nD) → vs.map (fun v => toN (tupK H v)) = ns
  | [], [], _ => rfl
  | [], _ :: _, h => by simp only [List.map_cons, Dats] at h
  | _ :: _, [], h => by simp only [List.map_nil, Dats] at h
  | v :: vs, n :: ns, h => by
    simp only [List.map_cons, Dats] at h
    obtain ⟨t, rfl, ht⟩ := dat_nt_inv h.1
    rw [List.map_cons, nts_map h.2, tupK_nt ht, toN_nK]
theorem nts_of {H : Hp} : ∀ {vs : List V}, (∀ v ∈ vs, ∃ t x, v = V.ref t ∧ H t = some (.tup (nV x))) → Dats H vs ((vs.map fun v => toN (tupK H v)).map nD)
  | [], _ => by simp [Dats]
  | v :: vs, h => by
    obtain ⟨t, x, rfl, ht⟩ := h v (.head _)
    simp only [List.map_cons, Dats]
    exact ⟨by rw [tupK_nt ht, toN_nK]; exact dat_nt ht, nts_of fun v hv => h v (.tail _ hv)⟩
theorem sort_nts {K : PySem.W.Frag} {H : Hp} {p : Addr} {ns : List Nt} {Q : VK} (N : NtsAt H p ns) (k : ∀ l ns' H', H l = none → NtsAt H' l ns' → ns'.Perm ns → NSrt ns' → Same H H' → Q (.ref l) H') : rSortT K [.ref p] H Q := by
  obtain ⟨ys, hp, d⟩ := N
  refine ⟨p, ys, 4, tupK H, rfl, SqL.of hp, by decide, fun y hy => ?_, fun l zs hl pz sz => ?_⟩
  · obtain ⟨t, x, rfl, _, ht⟩ := nts_mem d hy
    exact ⟨t, rfl, by rw [tupK_nt ht, nK_map]; exact SqT.of ht, by rw [tupK_nt ht]; rfl⟩
  · have sm := same_new (o := HO.lst zs) hl
    have all : ∀ v ∈ zs, ∃ t x, v = V.ref t ∧ H t = some (.tup (nV x)) := fun v hv => by
      obtain ⟨t, x, e, _, ht⟩ := nts_mem d (pz.mem_iff.mp hv)
      exact ⟨t, x, e, ht⟩
    refine k l (zs.map fun v => toN (tupK H v)) _ hl ⟨zs, upd_same, Dats.keep sm.tups _ (imms_map _ imm_nD _) (nts_of all)⟩ ?_ ?_ sm
    · rw [← nts_map d]
      exact pz.map _
    · unfold NSrt
      rw [List.pairwise_map]
      refine List.Pairwise.imp_of_mem (fun {x y} hx hy h => ?_) sz
      obtain ⟨t, a, rfl, ht⟩ := all x hx
      obtain ⟨u, b, rfl, hu⟩ := all y hy
      rw [tupK_nt ht, tupK_nt hu] at h ⊢
      exact h

/-! ### the lambda of apart_shows -/
def stVal : Stmt → Option Expr
  | .Assign _ v _ => some v
  | _ => none
def kwVal : Expr → Option Expr
  | .Call _ _ (k :: _) _ => some k.value
  | _ => none
def lamP : Option Expr → Arguments
  | some (.Lambda p _ _ _) => p
  | _ => defArgs s_law
def lamB : Option Expr → Expr
  | some (.Lambda _ b _ _) => b
  | _ => .Constant .none 0 ⟨0, 0, 0, 0⟩
def lamS : Option Expr → Scope
  | some (.Lambda _ _ s _) => s
  | _ => defScope s_law
def lamO : Option Expr → Pos
  | some (.Lambda _ _ _ o) => o
  | _ => ⟨0, 0, 0, 0⟩
def lamE : Option Expr := ((defBody s_apart_shows)[2]?).bind fun m => (stVal m).bind kwVal
def lamQ : Str := "apart_shows" ++ ".<locals>." ++ "<lambda>"
def keyW (x : Nt) : List Int := [x.1, x.2.2.1, x.2.2.2]
def spWantK : List V → Hp → VK → Prop := fun vs H Q => ∃ (t : Addr) (x : Nt), vs = [.ref t] ∧ H t = some (.tup (nV x)) ∧ ∀ p, H p = none → Q (.ref p) (upd H p (.tup ((keyW x).map V.int)))
theorem lam_want : LamOk P w K mg base 0 ["want"] ["want"] lamQ (lamP lamE) (lamB lamE) (lamS lamE) spWantK := by
  refine ⟨⟨rfl, rfl, rfl, by decide +kernel, rfl, by decide +kernel, by decide +kernel⟩, fun pm ctv c us hl => ?_, fun vs H Q h => ?_, fun f c A outer s H vs Q hr h => ?_⟩
  · match us, hl with
    | [u], _ => rfl
  · obtain ⟨t, x, rfl, _⟩ := h
    rfl
  · obtain ⟨t, x, rfl, ht, k⟩ := h
    refine ⟨_, (pe_tup (pa_cons (pe_ix (ix_tupK (K := K) rfl) (pv 0) pe_int (fun _ _ => rfl)) (pa_cons (pe_ix (ix_tupK (K := K) rfl) (pv 0) pe_int (fun _ _ => rfl)) (pa_cons (pe_ix (ix_tupK (K := K) rfl) (pv 0) pe_int (fun _ _ => rfl)) pa_nil)))), ?_⟩
    exact ⟨_, rfl, _, _, _, _, rfl, rfl, SqT.of ht, rfl, _, rfl, _, _, _, _, rfl, rfl, SqT.of ht, rfl, _, rfl, _, _, _, _, rfl, rfl, SqT.of ht, rfl, (by show 3 ≤ sizeLine; decide), fun p hp => k p hp⟩
/-! ### wants apart, by their places -/
def LT (p : Addr) (H : Hp) : Prop := LamT H p (lamO lamE) lamQ
def pl1 (ws : List Tch) (x : Nt) : Nat := (nm ws).idxOf (n1 x)
def pl2 (ws : List Tch) (x : Nt) : Nat := (nm ws).idxOf (n2 x)
/-- the one with the earlier second touch, and the other: a strict note meets both -/
def Clash (ws : List Tch) (x y : Nt) : Prop := x.1 = y.1 ∧ x.2.2.1 = y.2.2.1 ∧ pl2 ws x ≤ pl2 ws y ∧ pl1 ws y < pl2 ws x
def ApOk (ws : List Tch) (ns : List Nt) : Prop := (∀ x ∈ ns, WantP ws x) ∧ ∀ (a b : Nat) x y, a ≠ b → ns[a]? = some x → ns[b]? = some y → ¬ Clash ws x y

theorem for_zip {l1 l2 : Addr} {xs ys : List V} {n : Nat} {g : TG} {tb : TS} {D : Ends} {σ : St} {H : Hp} (hn : n = min xs.length ys.length) (Pv : Nat → St → Hp → Prop) (h0 : Pv 0 σ H) (hl : ∀ i σ H, i ≤ n → Pv i σ H → SqL K H l1 xs ∧ SqL K H l2 ys)
    (hs : ∀ i x y σ H p, xs[i]? = some x → ys[i]? = some y → Pv i σ H → H p = none → g (.ref p) σ (upd H p (.tup [x, y])) fun σ2 H2 => tb { D with nx := Pv (i + 1), ct := Pv (i + 1), bk := D.nx } σ2 H2) (hd : ∀ σ H, Pv n σ H → D.nx σ H) :
    ∃ W : Nat → Nat → St → Hp → Prop, (∃ m, W 0 m σ H) ∧ ∀ i m σ H, W i m σ H →
      ((Itz K l1 l2).stop i H ∧ D.nx σ H) ∨ ((Itz K l1 l2).go i H ∧ ∃ N : St → Hp → Prop, (∀ σ' H', N σ' H' → ∃ m', m' < m ∧ W (i + 1) m' σ' H') ∧ ∀ x H', (Itz K l1 l2).yld i H x H' → g x σ H' fun σ2 H2 => tb { D with nx := N, ct := N, bk := D.nx } σ2 H2) := by
  refine ⟨fun i m σ H => m = n - i ∧ i ≤ n ∧ Pv i σ H, ⟨n, by simp, Nat.zero_le _, h0⟩, ?_⟩
  rintro i m σ H ⟨rfl, hi, p⟩
  obtain ⟨q1, q2⟩ := hl i σ H hi p
  by_cases hlt : i < n
  · refine .inr ⟨⟨xs, ys, xs[i]'(by omega), ys[i]'(by omega), q1, q2, by simp [show i < xs.length by omega], by simp [show i < ys.length by omega]⟩, Pv (i + 1), fun σ' H' p' => ⟨n - (i + 1), by omega, rfl, hlt, p'⟩, fun x H' y => ?_⟩
    obtain ⟨t, z, u, rfl, ht, hz, hu, rfl⟩ := y
    exact hs i z u σ _ t (hz xs q1) (hu ys q2) p ht
  · have e : i = n := by omega
    subst e
    exact .inl ⟨⟨xs, ys, q1, q2, by omega⟩, hd σ H p⟩
/-! in their order -/
def KLe (x y : Nt) : Prop := Tim.lexB (keyW y) (keyW x) = false
theorem kle_iff (x y : Nt) : KLe x y ↔ x.1 < y.1 ∨ (x.1 = y.1 ∧ (x.2.2.1 < y.2.2.1 ∨ (x.2.2.1 = y.2.2.1 ∧ x.2.2.2 ≤ y.2.2.2))) := by
  unfold KLe keyW
  simp only [Tim.lexB]
  split
  · rename_i e1
    split
    · rename_i e2
      split
      · rename_i e3
        simp
        omega
      · simp
        omega
    · simp
      omega
  · simp
    omega
theorem pl_at {ws : List Tch} {x : Nt} {i j : Nat} (st : StrAt ws x i j) : pl1 ws x = i ∧ pl2 ws x = j := by
  have get : ∀ {y : Prs} {i : Nat}, (nm ws)[i]? = some y → (nm ws)[(nm ws).idxOf y]? = some y := fun {y i} e => by
    have hl := List.idxOf_lt_length_iff.mpr (List.mem_of_getElem? e)
    rw [List.getElem?_eq_getElem hl, List.getElem_idxOf hl]
  exact ⟨nm_inj (get st.2.1) st.2.1, nm_inj (get st.2.2.1) st.2.2.1⟩
theorem want_at {ws : List Tch} {x : Nt} (h : WantP ws x) : StrAt ws x (pl1 ws x) (pl2 ws x) := by
  obtain ⟨i, j, _, _, st, _⟩ := h
  obtain ⟨e1, e2⟩ := pl_at st
  rw [e1, e2]
  exact st
theorem pl2_le {ws : List Tch} {x y : Nt} (hx : WantP ws x) (hy : WantP ws y) (e : x.2.2.1 = y.2.2.1) : pl2 ws x ≤ pl2 ws y ↔ x.2.2.2 ≤ y.2.2.2 := by
  have sx := want_at hx
  have sy := want_at hy
  obtain ⟨tx, ex, qx⟩ := nm_some sx.2.2.1
  obtain ⟨ty, ey, qy⟩ := nm_some sy.2.2.1
  have hx1 : x.2.2.1 = tx.1 := congrArg Prod.fst qx
  have hx2 : x.2.2.2 = cnt (ws.take (pl2 ws x)) tx.1 := congrArg Prod.snd qx
  have hy1 : y.2.2.1 = ty.1 := congrArg Prod.fst qy
  have hy2 : y.2.2.2 = cnt (ws.take (pl2 ws y)) ty.1 := congrArg Prod.snd qy
  have et : tx.1 = ty.1 := by rw [← hx1, ← hy1, e]
  rw [hx2, hy2, ← et]
  constructor
  · intro q
    exact cnt_mono q _
  · intro q
    rcases Nat.lt_or_ge (pl2 ws y) (pl2 ws x) with w | w
    · have m := cnt_mono (ws := ws) (m := pl2 ws y + 1) (n := pl2 ws x) w ty.1
      have tk : ws.take (pl2 ws y + 1) = ws.take (pl2 ws y) ++ [ty] := by rw [List.take_add_one, ey]; rfl
      rw [tk, cnt_snoc, if_pos rfl] at m
      rw [et] at q
      omega
    · exact w
theorem chain {ws : List Tch} {l : List Nt} (srt : l.Pairwise KLe) (hw : ∀ x ∈ l, WantP ws x) (ok : ∀ (i : Nat) x y, l[i]? = some x → l[i + 1]? = some y → ¬ (x.1 = y.1 ∧ x.2.2.1 = y.2.2.1 ∧ pl1 ws y < pl2 ws x)) (i : Nat) (x : Nt) (hx : l[i]? = some x) : ∀ (d : Nat) (y : Nt), l[i + d + 1]? = some y → x.1 = y.1 → x.2.2.1 = y.2.2.1 → pl2 ws x ≤ pl1 ws y
  | 0, y, hy, e1, e2 => by
    have := ok i x y hx hy
    rcases Nat.lt_or_ge (pl1 ws y) (pl2 ws x) with w | w
    · exact absurd ⟨e1, e2, w⟩ this
    · exact w
  | d + 1, y, hy, e1, e2 => by
    have yl := (List.getElem?_eq_some_iff.mp hy).1
    obtain ⟨z, hz⟩ : ∃ z, l[i + d + 1]? = some z := ⟨l[i + d + 1]'(by omega), by simp [show i + d + 1 < l.length by omega]⟩
    have k1 : KLe x z := by
      have h1 := (List.getElem?_eq_some_iff.mp hx).2
      have h2 := (List.getElem?_eq_some_iff.mp hz).2
      rw [← h1, ← h2]
      exact List.pairwise_iff_getElem.mp srt i (i + d + 1) (by omega) (by omega) (by omega)
    have k2 : KLe z y := by
      have h1 := (List.getElem?_eq_some_iff.mp hz).2
      have h2 := (List.getElem?_eq_some_iff.mp hy).2
      rw [← h1, ← h2]
      exact List.pairwise_iff_getElem.mp srt (i + d + 1) (i + (d + 1) + 1) (by omega) (by omega) (by omega)
    rw [kle_iff] at k1 k2
    have f1 : x.1 = z.1 := by omega
    have f2 : x.2.2.1 = z.2.2.1 := by omega
    have ih := chain srt hw ok i x hx d z hz f1 f2
    have lz := (want_at (hw z (List.mem_of_getElem? hz))).2.2.2
    have := ok (i + d + 1) z y hz hy
    rcases Nat.lt_or_ge (pl1 ws y) (pl2 ws z) with w | w
    · exact absurd ⟨by omega, by omega, w⟩ this
    · omega
/-- in their order: none clash where no neighbours do -/
theorem ap_sorted {ws : List Tch} {ns : List Nt} {ms : List Nat} (hw : ∀ x ∈ ns, WantP ws x) (pm : ms.Perm (List.range ns.length)) (srt : (ms.map fun i => (ns[i]?).getD (0, 0, 0, 0)).Pairwise KLe)
    (ok : ∀ (i : Nat) x y, (ms.map fun i => (ns[i]?).getD (0, 0, 0, 0))[i]? = some x → (ms.map fun i => (ns[i]?).getD (0, 0, 0, 0))[i + 1]? = some y → ¬ (x.1 = y.1 ∧ x.2.2.1 = y.2.2.1 ∧ pl1 ws y < pl2 ws x)) : ApOk ws ns := by
  have hin : ∀ i ∈ ms, i < ns.length := fun i hi => List.mem_range.mp (pm.mem_iff.mp hi)
  have hwm : ∀ x ∈ ms.map (fun i => (ns[i]?).getD (0, 0, 0, 0)), WantP ws x := fun x hx => by
    obtain ⟨i, hi, rfl⟩ := List.mem_map.mp hx
    rw [List.getElem?_eq_getElem (hin i hi)]
    exact hw _ (List.getElem_mem _)
  have at_ : ∀ {a : Nat} {x : Nt}, ns[a]? = some x → ∃ i : Nat, ms[i]? = some a ∧ (ms.map fun i => (ns[i]?).getD (0, 0, 0, 0))[i]? = some x := fun {a x} e => by
    obtain ⟨i, hi⟩ := List.getElem?_of_mem (pm.mem_iff.mpr (List.mem_range.mpr (List.getElem?_eq_some_iff.mp e).1))
    exact ⟨i, hi, by rw [List.getElem?_map, hi]; simp [e]⟩
  refine ⟨hw, fun a b x y ne ea eb ⟨c1, c2, c3, c4⟩ => ?_⟩
  obtain ⟨i, mi, ti⟩ := at_ ea
  obtain ⟨j, mj, tj⟩ := at_ eb
  have hx := hw x (List.mem_of_getElem? ea)
  have hy := hw y (List.mem_of_getElem? eb)
  rcases Nat.lt_trichotomy i j with q | q | q
  · obtain ⟨d, rfl⟩ : ∃ d, j = i + d + 1 := ⟨j - i - 1, by omega⟩
    have := chain srt hwm ok i x ti d y tj c1 c2
    omega
  · subst q
    rw [mi] at mj
    exact ne (Option.some.inj mj)
  · obtain ⟨d, rfl⟩ : ∃ d, i = j + d + 1 := ⟨i - j - 1, by omega⟩
    have := chain srt hwm ok j y tj d x ti c1.symm c2.symm
    have lx := (want_at hx).2.2.2
    have ly := (want_at hy).2.2.2
    omega
theorem ap_clash {ws : List Tch} {ns : List Nt} {ms : List Nat} (pm : ms.Perm (List.range ns.length)) (srt : (ms.map fun i => (ns[i]?).getD (0, 0, 0, 0)).Pairwise KLe) {i : Nat} {x y : Nt}
    (hx : (ms.map fun i => (ns[i]?).getD (0, 0, 0, 0))[i]? = some x) (hy : (ms.map fun i => (ns[i]?).getD (0, 0, 0, 0))[i + 1]? = some y) (c : x.1 = y.1 ∧ x.2.2.1 = y.2.2.1 ∧ pl1 ws y < pl2 ws x) : ¬ ApOk ws ns := fun ⟨hw, no⟩ => by
  have nd : ms.Nodup := (pm.nodup_iff).mpr List.nodup_range
  have il := (List.getElem?_eq_some_iff.mp hy).1
  rw [List.length_map] at il
  have k1 : KLe x y := by
    have h1 := (List.getElem?_eq_some_iff.mp hx).2
    have h2 := (List.getElem?_eq_some_iff.mp hy).2
    rw [← h1, ← h2]
    exact List.pairwise_iff_getElem.mp srt i (i + 1) (by rw [List.length_map]; omega) (by rw [List.length_map]; omega) (by omega)
  have g : ∀ {j : Nat} (hj : j < ms.length) {z : Nt}, (ms.map fun i => (ns[i]?).getD (0, 0, 0, 0))[j]? = some z → ns[ms[j]]? = some z := fun {j} hj {z} e => by
    rw [List.getElem?_map, List.getElem?_eq_getElem hj] at e
    have lt : ms[j] < ns.length := List.mem_range.mp (pm.mem_iff.mp (List.getElem_mem hj))
    simp only [Option.map_some] at e
    rw [List.getElem?_eq_getElem lt] at e ⊢
    simpa using e
  have ex := g (j := i) (by omega) hx
  have ey := g (j := i + 1) il hy
  have hwx := hw x (List.mem_of_getElem? ex)
  have hwy := hw y (List.mem_of_getElem? ey)
  rw [kle_iff] at k1
  refine no ms[i] ms[i + 1] x y (fun z => ?_) ex ey ⟨c.1, c.2.1, (pl2_le hwx hwy c.2.1).mpr (by omega), c.2.2⟩
  have := (List.pairwise_iff_getElem.mp nd) i (i + 1) (by omega) il (by omega)
  exact this z

def spApS (p : Addr) (K : PySem.W.Frag) : Sp := fun vs H Q _ => ∃ (a s : Addr) (ws : List Tch) (ns : List Nt), vs = [.ref a, .ref s] ∧ WebAt H a ws ∧ ws.length ≤ 300 ∧ NtsAt H s ns ∧ ns.length ≤ 90000 ∧ LT p H ∧ ∀ (bl : Bool) (H' : Hp), (bl = true ↔ ApOk ws ns) → Kp p H H' → LT p H' → Q (.bl bl) H'
theorem ok_apS {p f : Addr} {fd : FuncData} (F : FunL K "apart_shows" "apart_shows" s_apart_shows p f fd) (F_places_of : FnAt P w K mg base 2 "places_of" ["web"] (spPlaces K)) (F_is_want : FnAt P w K mg base 4 "is_want" ["web", "places", "note"] (spIsWant K)) (F_hands_of : FnAt P w K mg base 1 "hands_of" ["note"] (spHandsOf K)) (BM : Bm mg base) (Bt : Blt mg) : FnOk P w K mg base CX0 5 f fd ["web", "wants"] (spApS p K) := by
  refine F.ok sc_apart_shows (fun vs H Q E h => ?_) (fun c A outer s H vs Q E hcd hr h => ?_)
  · obtain ⟨a, s, ws, ns, rfl, _⟩ := h
    rfl
  · obtain ⟨a, sa, ws, ns, rfl, W, wl, N, nl, lt, k⟩ := h
    have hu := hu_of hr
    have hu64 := hr.units
    have LM := lam_want (P := P) (w := w) (K := K) (mg := mg) (base := base)
    refine ⟨_, (pss_cons (ps_set (i := 2) sc_apart_shows.nd rfl (Or.inr rfl) (pe_fn F_places_of (hr.mono (by decide)) (by rfl) (pa_cons (pv 0) pa_nil)))
      (pss_cons (ps_if (pt_not (pt_val (pe_callB (call_all_boolsK (K := K) rfl rfl) (by rfl) Bt.b_all bt_all (pa_cons (pe_comp rfl (N := ["want", "web", "places"]) (own := ["want"]) (caps := [0, 2]) (CompScope.of (by kernel_rfl)) (pi_listK (K := K) rfl (pv 1)) (fun _ _ _ _ => (pg_name (i := 0) (show List.Nodup (["want", "web", "places"] : List Str) by decide +kernel) rfl (Or.inl rfl))) (fun _ _ _ _ => pts_nil) (fun _ _ _ _ => (pe_fn F_is_want (hr.mono (by decide)) (by rfl) (pa_cons (pv 1) (pa_cons (pv 2) (pa_cons (pv 0) pa_nil)))))) pa_nil)))) (pss_one (ps_ret pe_bl)) pss_nil)
      (pss_cons (ps_set (i := 3) sc_apart_shows.nd rfl (Or.inl rfl) (pe_sortL (pm := (mg "__name__").getD .none) LM (hr.mono (by decide)) (by rfl) Bt.b_sorted bt_sorted (pa_cons (pv 1) pa_nil) (pe_lam BM rfl hcd)))
      (pss_cons (ps_for PassesOwn.never rfl (pi_zipK (K := K) rfl (by rfl) Bt.b_zip (pa_cons (pv 3) (pa_cons (pe_slice (sl_listK (K := K) rfl) (pv 3) (po_some pe_int) po_none) pa_nil))) (pg_tupK (K := K) (n := 2) rfl rfl (pgs_cons (pg_name (i := 4) sc_apart_shows.nd rfl (Or.inl rfl)) (pgs_cons (pg_name (i := 5) sc_apart_shows.nd rfl (Or.inl rfl)) pgs_nil)))
      (pss_one (ps_if (PW.pt (pw_and (pt_cmpR (op_eqDK (K := K) rfl hu64) (pe_fn F_hands_of (hr.mono (by decide)) (by rfl) (pa_cons (pv 4) pa_nil)) (pe_fn F_hands_of (hr.mono (by decide)) (by rfl) (pa_cons (pv 5) pa_nil)) (nomark _)) (pw_and1 (pt_cmpR op_lt (pe_dget hu (pv 2) (pe_slice (sl_tupK (K := K) rfl) (pv 5) po_none (po_some pe_int)) (fun _ _ => rfl)) (pe_dget hu (pv 2) (pe_slice (sl_tupK (K := K) rfl) (pv 4) (po_some pe_int) po_none) (fun _ _ => rfl)) (nomark _))))) (pss_one (ps_ret pe_bl)) pss_nil)))
      (pss_one (ps_ret pe_bl)))))), ?_⟩
    refine ⟨_, rfl, a, ws, rfl, W, wl, fun d kvs H1 hd0 hd pl s1 => ?_⟩
    obtain ⟨us, hus, dus⟩ := id (N.same s1)
    have usl : us.length = ns.length := by rw [dus.length, List.length_map]
    -- all([is_want(web, places, want) for want in wants])
    refine ⟨_, rfl, sa, rfl, ⟨_, SqL.of hus⟩, fun D hD => ?_⟩
    classical
    refine comp_val (K := K) (fun i => (ns[i]?).map fun x => V.bl (decide (WantP ws x))) hD (SqL.of hus) (by omega) (fun i v H2 G F hi s2 kG kF => ?_) (fun H2 s2 e2 => ?_)
    · obtain ⟨x, t, ex, rfl, ht⟩ := nts_get dus hi
      rw [ex] at kF
      refine iteT (B := G H2) ?_
      refine ⟨_, rfl, _, rfl, _, rfl, a, d, t, kvs, ws, x, rfl, (W.same s1).same s2, s2 _ _ hd, pl, s2 _ _ ht, fun bl H3 hb s3 => kF _ _ s3 ?_⟩
      show some (V.bl (decide (WantP ws x))) = some (V.bl bl)
      have : bl = decide (WantP ws x) := by rw [Bool.eq_iff_iff, hb, decide_eq_true_iff]
      rw [this]
    have efm : (List.range us.length).filterMap (fun i => (ns[i]?).map fun x => V.bl (decide (WantP ws x))) = (ns.map fun x => decide (WantP ws x)).map V.bl := by
      rw [usl, List.map_map]
      clear dus hus usl N nl k hD e2
      induction ns with
      | nil => rfl
      | cons x l ih =>
        rw [List.length_cons, List.range_succ_eq_map, List.filterMap_cons, List.filterMap_map]
        have e : List.filterMap ((fun i => ((x :: l)[i]?).map fun x => V.bl (decide (WantP ws x))) ∘ Nat.succ) (List.range l.length) = l.map (V.bl ∘ fun x => decide (WantP ws x)) := by rw [← ih]; rfl
        rw [e]
        rfl
    rw [efm] at e2
    have s12 := s1.trans s2
    refine ⟨D, _, rfl, SqL.of e2, _, rfl, ?_⟩
    by_cases hall : ∀ x ∈ ns, WantP ws x
    rotate_left
    · have : (ns.map fun x => decide (WantP ws x)).all id = false := by
        rw [Bool.eq_false_iff]
        intro z
        rw [List.all_eq_true] at z
        exact hall fun x hx => of_decide_eq_true (z _ (List.mem_map.mpr ⟨x, hx, rfl⟩))
      rw [this]
      refine iteT ?_
      exact k false H2 ⟨fun z => (by cases z), fun z => absurd z.1 hall⟩ (.of_same s12) (by
        rcases lt with e | ⟨c, e, f⟩
        · exact .inl (s12 _ _ e)
        · exact .inr ⟨c, s12 _ _ e, s12 _ _ f⟩)
    have : (ns.map fun x => decide (WantP ws x)).all id = true := by
      rw [List.all_eq_true]
      intro z hz
      obtain ⟨x, hx, rfl⟩ := List.mem_map.mp hz
      exact decide_eq_true (hall x hx)
    rw [this]
    refine iteF ?_
    have lt2 : LT p H2 := by
      rcases lt with e | ⟨c, e, f⟩
      · exact .inl (s12 _ _ e)
      · exact .inr ⟨c, s12 _ _ e, s12 _ _ f⟩
    obtain ⟨us2, hus2, dus2⟩ := id (N.same s12)
    have us2l : us2.length = ns.length := by rw [dus2.length, List.length_map]
    -- in_turn = sorted(wants, key=..)
    refine ⟨_, rfl, lt2, fun q H3 hq0 LF lt3 kp3 => ?_⟩
    have ltne : ∀ {b : Addr} {o : HO}, H2 b = some o → (∀ ps, o ≠ .tbl ps) → b ≠ p := fun {b o} e n z => by
      rcases lt2 with q | ⟨c, q, _⟩
      · rw [z, q] at e; cases e; exact n _ rfl
      · rw [z, q] at e; cases e; exact n _ rfl
    have hus3 := kp3 _ _ hus2 (ltne hus2 (by intro ps z; cases z))
    have tup3 : ∀ a xs, H2 a = some (HO.tup xs) → H3 a = some (HO.tup xs) := fun a xs e => kp3 _ _ e (ltne e (by intro ps z; cases z))
    have dus3 := Dats.keep tup3 _ (imms_map _ imm_nD _) dus2
    refine ⟨sa, q, us2, 3, fun i => keyW ((ns[i]?).getD (0, 0, 0, 0)), rfl, rfl, LF, SqL.of hus3, by rw [us2l, sizeLine_eq]; omega, by decide, fun _ _ => rfl, fun i v H4 e s4 => ?_, fun T ms H4 m1 m2 hT s4 => ?_⟩
    · obtain ⟨x, t, ex, rfl, ht⟩ := nts_get dus3 e
      refine ⟨t, x, rfl, s4 _ _ ht, fun pp hpp => ⟨pp, rfl, ?_, same_new hpp⟩⟩
      rw [upd_same]
      dsimp only
      rw [ex]
      rfl
    -- for want, following in zip(in_turn, in_turn[1:])
    have zl : (ms.map fun i => (us2[i]?).getD V.non).length = ns.length := by rw [List.length_map, m1.length_eq, List.length_range, us2l]
    have s5 := same_new (o := HO.lst (ms.map fun i => (us2[i]?).getD V.non)) hT
    have s35 := s4.trans s5
    have hin : ∀ i ∈ ms, i < ns.length := fun i hi => by
      have := List.mem_range.mp (m1.mem_iff.mp hi)
      omega
    have m1' : ms.Perm (List.range ns.length) := by rw [← us2l]; exact m1
    have srt : (ms.map fun i => (ns[i]?).getD (0, 0, 0, 0)).Pairwise KLe := by
      rw [List.pairwise_map]
      exact m2
    have atT : ∀ {i : Nat} {v : V}, (ms.map fun i => (us2[i]?).getD V.non)[i]? = some v → ∃ x t, (ms.map fun i => (ns[i]?).getD (0, 0, 0, 0))[i]? = some x ∧ v = .ref t ∧ (upd H4 T (HO.lst (ms.map fun i => (us2[i]?).getD V.non))) t = some (.tup (nV x)) ∧ WantP ws x := fun {i v} e => by
      rw [List.getElem?_map] at e
      cases em : ms[i]? with
      | none => rw [em] at e; cases e
      | some m =>
        rw [em] at e
        simp only [Option.map_some] at e
        have ml := hin m (List.mem_of_getElem? em)
        rw [List.getElem?_eq_getElem (show m < us2.length by omega)] at e
        have e : us2[m]'(by omega) = v := by simpa using e
        obtain ⟨x, t, ex, rfl, ht⟩ := nts_get dus3 (i := m) (v := v) (by rw [List.getElem?_eq_getElem (by omega), e])
        refine ⟨x, t, by rw [List.getElem?_map, em]; simp [ex], rfl, s35 _ _ ht, hall x (List.mem_of_getElem? ex)⟩
    have hT5 : (upd H4 T (HO.lst (ms.map fun i => (us2[i]?).getD V.non))) T = some (.lst (ms.map fun i => (us2[i]?).getD V.non)) := upd_same
    have lt5 : LT p (upd H4 T (HO.lst (ms.map fun i => (us2[i]?).getD V.non))) := by
      rcases lt3 with e | ⟨c, e, f⟩
      · exact .inl (s35 _ _ e)
      · exact .inr ⟨c, s35 _ _ e, s35 _ _ f⟩
    have kp5 : Kp p H (upd H4 T (HO.lst (ms.map fun i => (us2[i]?).getD V.non))) := fun b u e n => s35 _ _ (kp3 _ _ (s12 _ _ e) n)
    have hd5 : (upd H4 T (HO.lst (ms.map fun i => (us2[i]?).getD V.non))) d = some (.dT kvs) := s35 _ _ (kp3 _ _ (s2 _ _ hd) (ltne (s2 _ _ hd) (by intro ps z; cases z)))
    refine ⟨_, rfl, _, rfl, _, rfl, _, _, rfl, SqL.of hT5, fun U hU => ?_⟩
    generalize upd H4 T (HO.lst (ms.map fun i => (us2[i]?).getD V.non)) = H5 at hT5 lt5 kp5 hd5 atT hU s5 s35 ⊢
    rw [show cutV (ms.map fun i => (us2[i]?).getD V.non) (some 1) none = (ms.map fun i => (us2[i]?).getD V.non).drop 1 from cut_drop _ 1]
    have s6 := same_new (o := HO.lst ((ms.map fun i => (us2[i]?).getD V.non).drop 1)) hU
    refine ⟨T, U, _, _, rfl, SqL.of (s6 _ _ hT5), SqL.of upd_same, ?_⟩
    have hU6 : (upd H5 U (HO.lst ((ms.map fun i => (us2[i]?).getD V.non).drop 1))) U = some (.lst ((ms.map fun i => (us2[i]?).getD V.non).drop 1)) := upd_same
    generalize upd H5 U (HO.lst ((ms.map fun i => (us2[i]?).getD V.non).drop 1)) = H6 at s6 hU6 ⊢
    have dl : ∀ i : Nat, ((ms.map fun i => (us2[i]?).getD V.non).drop 1)[i]? = (ms.map fun i => (us2[i]?).getD V.non)[i + 1]? := fun i => by rw [List.getElem?_drop, Nat.add_comm]
    have fin : ∀ {H' : Hp} {b : Bool}, Same H6 H' → (b = true ↔ ApOk ws ns) → Q (.bl b) H' := fun {H' b} sm hb => k b H' hb (fun c u e n => sm _ _ (s6 _ _ (kp5 c u e n))) (by
      rcases lt5 with e | ⟨c, e, f⟩
      · exact .inl (sm _ _ (s6 _ _ e))
      · exact .inr ⟨c, sm _ _ (s6 _ _ e), sm _ _ (s6 _ _ f)⟩)
    refine for_zip (K := K) (l1 := T) (l2 := U) (xs := ms.map fun i => (us2[i]?).getD V.non) (ys := (ms.map fun i => (us2[i]?).getD V.non).drop 1) rfl (fun i σ H7 => ∃ (x4 x5 : Option V), σ = [some (.ref a), some (.ref sa), some (.ref d), some (.ref T), x4, x5] ∧ Same H6 H7 ∧
        ∀ (j : Nat) x y, j < i → (ms.map fun i => (ns[i]?).getD (0, 0, 0, 0))[j]? = some x → (ms.map fun i => (ns[i]?).getD (0, 0, 0, 0))[j + 1]? = some y → ¬ (x.1 = y.1 ∧ x.2.2.1 = y.2.2.1 ∧ pl1 ws y < pl2 ws x))
      ⟨none, none, rfl, Same.refl _, fun j x y hj => absurd hj (Nat.not_lt_zero _)⟩ (fun i σ H7 _ ⟨_, _, _, sm, _⟩ => ⟨SqL.of (sm _ _ (s6 _ _ hT5)), SqL.of (sm _ _ hU6)⟩) ?_ ?_
    · rintro i v1 v2 σ H7 pq h1 h2 ⟨x4, x5, rfl, sm, inv⟩ hpq
      rw [dl] at h2
      obtain ⟨x, t1, tx, rfl, ht1, wx⟩ := atT h1
      obtain ⟨y, t2, ty, rfl, ht2, wy⟩ := atT h2
      have sq := same_new (o := HO.tup [V.ref t1, V.ref t2]) hpq
      have smq := sm.trans sq
      have g1 := smq _ _ (s6 _ _ ht1)
      have g2 := smq _ _ (s6 _ _ ht2)
      have gd := smq _ _ (s6 _ _ hd5)
      refine ⟨pq, _, rfl, SqT.of upd_same, rfl, _, _, rfl, _, _, rfl, rfl, ?_⟩
      generalize upd H7 pq (HO.tup [V.ref t1, V.ref t2]) = H8 at sq smq g1 g2 gd ⊢
      refine ⟨_, rfl, t1, x, rfl, g1, fun pa hpa => ?_⟩
      have sa1 := same_new (o := HO.tup [V.int x.1, V.int x.2.2.1]) hpa
      refine ⟨_, rfl, t2, y, rfl, sa1 _ _ g2, fun pb hpb => ?_⟩
      have sb := same_new (o := HO.tup [V.int y.1, V.int y.2.2.1]) hpb
      have sab := sa1.trans sb
      refine ⟨_, _, dat_prs (x := (x.1, x.2.2.1)) (sb _ _ upd_same), dat_prs (x := (y.1, y.2.2.1)) upd_same, rfl, rfl, _, rfl, ?_⟩
      have e : (if false = true then !PyData.eqv (pD (x.1, x.2.2.1)) (pD (y.1, y.2.2.1)) else PyData.eqv (pD (x.1, x.2.2.1)) (pD (y.1, y.2.2.1))) = decide (x.1 = y.1 ∧ x.2.2.1 = y.2.2.1) := by
        rw [if_neg (by decide), eqv_pD, Bool.eq_iff_iff, decide_eq_true_iff, decide_eq_true_iff, Prod.mk.injEq]
      rw [e]
      have next : ∀ {H' : Hp}, Same H8 H' → ¬ (x.1 = y.1 ∧ x.2.2.1 = y.2.2.1 ∧ pl1 ws y < pl2 ws x) → Same H6 H' ∧ ∀ (j : Nat) x y, j < i + 1 → (ms.map fun i => (ns[i]?).getD (0, 0, 0, 0))[j]? = some x → (ms.map fun i => (ns[i]?).getD (0, 0, 0, 0))[j + 1]? = some y → ¬ (x.1 = y.1 ∧ x.2.2.1 = y.2.2.1 ∧ pl1 ws y < pl2 ws x) := fun {H'} s8 hc => ⟨smq.trans s8, fun j x' y' hj e1 e2 => by
        rcases Nat.lt_succ_iff_lt_or_eq.mp hj with q | q
        · exact inv j x' y' q e1 e2
        · subst q
          rw [tx] at e1
          rw [ty] at e2
          cases e1
          cases e2
          exact hc⟩
      by_cases hh : x.1 = y.1 ∧ x.2.2.1 = y.2.2.1
      rotate_left
      · rw [decide_eq_false hh]
        refine iteF ?_
        exact ⟨_, _, rfl, next sab fun z => hh ⟨z.1, z.2.1⟩⟩
      rw [decide_eq_true hh]
      refine iteT ?_
      generalize upd (upd H8 pa (HO.tup [V.int x.1, V.int x.2.2.1])) pb (HO.tup [V.int y.1, V.int y.2.2.1]) = H9 at sab ⊢
      refine ⟨_, rfl, _, rfl, _, rfl, _, _, rfl, SqT.of (sab _ _ g2), part4a (nV y) rfl, fun p3 hp3 => ?_⟩
      rw [show cutV (nV y) none (some 2) = [.int y.1, .int y.2.1] from cut4a ..]
      have s10 := same_new (o := HO.tup [V.int y.1, V.int y.2.1]) hp3
      refine ⟨d, _, rfl, pl.1 _ _ (want_at wy).2.1 ▸ DGet.t (k := kx (n1 y)) (s10 _ _ (sab _ _ gd)) upd_same, ?_⟩
      refine ⟨_, rfl, _, rfl, _, rfl, _, _, rfl, SqT.of (s10 _ _ (sab _ _ g1)), part4b (nV x) rfl, fun p4 hp4 => ?_⟩
      rw [show cutV (nV x) (some 2) none = [.int x.2.2.1, .int x.2.2.2] from cut4b ..]
      have s11 := same_new (o := HO.tup [V.int x.2.2.1, V.int x.2.2.2]) hp4
      refine ⟨d, _, rfl, pl.1 _ _ (want_at wx).2.2.1 ▸ DGet.t (k := kx (n2 x)) (s11 _ _ (s10 _ _ (sab _ _ gd))) upd_same, _, _, rfl, rfl, _, rfl, ?_⟩
      have sZ := sab.trans (s10.trans s11)
      by_cases hc : pl1 ws y < pl2 ws x
      · rw [decide_eq_true (show ((pl1 ws y : Nat) : Int) < ((pl2 ws x : Nat) : Int) by omega)]
        refine iteT ?_
        exact fin (smq.trans sZ) ⟨fun z => (by cases z), fun z => absurd z (ap_clash m1' srt tx ty ⟨hh.1, hh.2, hc⟩)⟩
      · rw [decide_eq_false (show ¬ ((pl1 ws y : Nat) : Int) < ((pl2 ws x : Nat) : Int) by omega)]
        refine iteF ?_
        exact ⟨_, _, rfl, next sZ fun z => hc z.2.2⟩
    · rintro σ H7 ⟨x4, x5, rfl, sm, inv⟩
      refine fin (b := true) sm ⟨fun _ => ap_sorted hall m1' srt fun i x y ex ey => inv i x y ?_ ex ey, fun _ => rfl⟩
      have := (List.getElem?_eq_some_iff.mp ey).1
      rw [List.length_map] at this
      rw [List.length_drop, List.length_map]
      omega

/-! ### the law's own judge: rows by numbers -/
def rowW (ws : List Tch) (x : Nt) : Nt := (x.1, x.2.2.1, (pl2 ws x : Int), (pl1 ws x : Int))
theorem nk_le {x y : Nt} (h : Tim.lexB (nK y) (nK x) = false) : x.1 < y.1 ∨ (x.1 = y.1 ∧ (x.2.1 < y.2.1 ∨ (x.2.1 = y.2.1 ∧ x.2.2.1 ≤ y.2.2.1))) := by
  unfold nK at h
  simp only [Tim.lexB] at h
  split at h
  · split at h
    · split at h
      · omega
      · simp at h
        omega
    · simp at h
      omega
  · simp at h
    omega
theorem chainR {l : List Nt} (srt : NSrt l) (lt : ∀ r ∈ l, r.2.2.2 < r.2.2.1) (ok : ∀ (i : Nat) x y, l[i]? = some x → l[i + 1]? = some y → ¬ (x.1 = y.1 ∧ x.2.1 = y.2.1 ∧ y.2.2.2 < x.2.2.1)) (i : Nat) (x : Nt) (hx : l[i]? = some x) : ∀ (d : Nat) (y : Nt), l[i + d + 1]? = some y → x.1 = y.1 → x.2.1 = y.2.1 → x.2.2.1 ≤ y.2.2.2
  | 0, y, hy, e1, e2 => by
    have := ok i x y hx hy
    rcases Int.lt_or_le y.2.2.2 x.2.2.1 with w | w
    · exact absurd ⟨e1, e2, w⟩ this
    · exact w
  | d + 1, y, hy, e1, e2 => by
    have yl := (List.getElem?_eq_some_iff.mp hy).1
    obtain ⟨z, hz⟩ : ∃ z, l[i + d + 1]? = some z := ⟨l[i + d + 1]'(by omega), by simp [show i + d + 1 < l.length by omega]⟩
    have k1 := by
      have h1 := (List.getElem?_eq_some_iff.mp hx).2
      have h2 := (List.getElem?_eq_some_iff.mp hz).2
      have := List.pairwise_iff_getElem.mp srt i (i + d + 1) (by omega) (by omega) (by omega)
      rw [h1, h2] at this
      exact nk_le this
    have k2 := by
      have h1 := (List.getElem?_eq_some_iff.mp hz).2
      have h2 := (List.getElem?_eq_some_iff.mp hy).2
      have := List.pairwise_iff_getElem.mp srt (i + d + 1) (i + (d + 1) + 1) (by omega) (by omega) (by omega)
      rw [h1, h2] at this
      exact nk_le this
    have f1 : x.1 = z.1 := by omega
    have f2 : x.2.1 = z.2.1 := by omega
    have ih := chainR srt lt ok i x hx d z hz f1 f2
    have lz := lt z (List.mem_of_getElem? hz)
    have := ok (i + d + 1) z y hz hy
    rcases Int.lt_or_le y.2.2.2 z.2.2.1 with w | w
    · exact absurd ⟨by omega, by omega, w⟩ this
    · omega
theorem ap_rows {ws : List Tch} {ns rs : List Nt} (hw : ∀ x ∈ ns, WantP ws x) (pm : rs.Perm (ns.map (rowW ws))) (srt : NSrt rs) :
    ApOk ws ns ↔ ∀ (i : Nat) x y, rs[i]? = some x → rs[i + 1]? = some y → ¬ (x.1 = y.1 ∧ x.2.1 = y.2.1 ∧ y.2.2.2 < x.2.2.1) := by
  obtain ⟨ms, m1, m2⟩ := perm_map (g := fun i => rowW ws ((ns[i]?).getD (0, 0, 0, 0))) (l := List.range ns.length) (out := rs) (by
    refine pm.trans (List.Perm.of_eq ?_)
    refine List.ext_getElem (by simp) fun i h1 h2 => ?_
    rw [List.length_map] at h1
    simp [h1])
  have nd : ms.Nodup := (m1.nodup_iff).mpr List.nodup_range
  have hin : ∀ i ∈ ms, i < ns.length := fun i hi => List.mem_range.mp (m1.mem_iff.mp hi)
  have lt : ∀ r ∈ rs, r.2.2.2 < r.2.2.1 := fun r hr => by
    obtain ⟨x, hx, rfl⟩ := List.mem_map.mp (pm.mem_iff.mp hr)
    have := (want_at (hw x hx)).2.2.2
    show ((pl1 ws x : Nat) : Int) < ((pl2 ws x : Nat) : Int)
    omega
  have at_ : ∀ {a : Nat} {x : Nt}, ns[a]? = some x → ∃ i : Nat, ms[i]? = some a ∧ rs[i]? = some (rowW ws x) := fun {a x} e => by
    obtain ⟨i, hi⟩ := List.getElem?_of_mem (m1.mem_iff.mpr (List.mem_range.mpr (List.getElem?_eq_some_iff.mp e).1))
    exact ⟨i, hi, by rw [m2, List.getElem?_map, hi]; simp [e]⟩
  constructor
  · rintro ⟨_, no⟩ i x y hx hy ⟨c1, c2, c3⟩
    have il := (List.getElem?_eq_some_iff.mp hy).1
    have ml : i + 1 < ms.length := by rw [m2, List.length_map] at il; exact il
    have g : ∀ {j : Nat} (hj : j < ms.length) {z : Nt}, rs[j]? = some z → ∃ o, ns[ms[j]]? = some o ∧ z = rowW ws o := fun {j} hj {z} e => by
      rw [m2, List.getElem?_map, List.getElem?_eq_getElem hj] at e
      have lt : ms[j] < ns.length := hin _ (List.getElem_mem hj)
      simp only [Option.map_some] at e
      rw [List.getElem?_eq_getElem lt] at e ⊢
      exact ⟨_, rfl, by simpa using (Option.some.inj e).symm⟩
    obtain ⟨o, eo, rfl⟩ := g (j := i) (by omega) hx
    obtain ⟨o', eo', rfl⟩ := g (j := i + 1) ml hy
    have k1 := by
      have h1 := (List.getElem?_eq_some_iff.mp hx).2
      have h2 := (List.getElem?_eq_some_iff.mp hy).2
      have := List.pairwise_iff_getElem.mp srt i (i + 1) (by omega) il (by omega)
      rw [h1, h2] at this
      exact nk_le this
    refine no ms[i] ms[i + 1] o o' (fun z => (List.pairwise_iff_getElem.mp nd) i (i + 1) (by omega) ml (by omega) z) eo eo' ⟨c1, c2, ?_, ?_⟩
    · have c1 : o.1 = o'.1 := c1
      have c2 : o.2.2.1 = o'.2.2.1 := c2
      have k1 : o.1 < o'.1 ∨ (o.1 = o'.1 ∧ (o.2.2.1 < o'.2.2.1 ∨ (o.2.2.1 = o'.2.2.1 ∧ ((pl2 ws o : Nat) : Int) ≤ ((pl2 ws o' : Nat) : Int)))) := k1
      omega
    · have c3 : ((pl1 ws o' : Nat) : Int) < ((pl2 ws o : Nat) : Int) := c3
      omega
  · intro ok
    refine ⟨hw, fun a b x y ne ea eb ⟨c1, c2, c3, c4⟩ => ?_⟩
    obtain ⟨i, mi, ti⟩ := at_ ea
    obtain ⟨j, mj, tj⟩ := at_ eb
    have lx := (want_at (hw x (List.mem_of_getElem? ea))).2.2.2
    have ly := (want_at (hw y (List.mem_of_getElem? eb))).2.2.2
    rcases Nat.lt_trichotomy i j with q | q | q
    · obtain ⟨d, rfl⟩ : ∃ d, j = i + d + 1 := ⟨j - i - 1, by omega⟩
      have : ((pl2 ws x : Nat) : Int) ≤ ((pl1 ws y : Nat) : Int) := chainR srt lt ok i _ ti d _ tj c1 c2
      omega
    · subst q
      rw [mi] at mj
      exact ne (Option.some.inj mj)
    · obtain ⟨d, rfl⟩ : ∃ d, i = j + d + 1 := ⟨i - j - 1, by omega⟩
      have : ((pl2 ws y : Nat) : Int) ≤ ((pl1 ws x : Nat) : Int) := chainR srt lt ok j _ tj d _ ti c1.symm c2.symm
      omega

/-! ### _law_apart -/
def spLap (K : PySem.W.Frag) : Sp := fun vs H Q _ => ∃ (a c s : Addr) (ws : List Tch) (ns : List Nt), vs = [.ref a, .ref c, .ref s] ∧ WebAt H a ws ∧ PrsAt H c (nm ws) ∧ ws.length ≤ 300 ∧ NtsAt H s ns ∧ ns.length ≤ 90000 ∧ ∀ (bl : Bool) (H' : Hp), (bl = true ↔ ApOk ws ns) → Same H H' → Q (.bl bl) H'
theorem ok_Lap {f : Addr} {fd : FuncData} (F : Fun K "_law_apart" "_law_apart" s_Lapart f fd) (F_Lmeets : FnAt P w K mg base 1 "_law_meets" ["one", "other"] (spMt K)) (Bt : Blt mg) : FnOk P w K mg base CX0 2 f fd ["web", "calls", "some"] (spLap K) := by
  refine F.ok sc_Lapart (fun vs H Q E h => ?_) (fun cdv A outer s H vs Q E hr h => ?_)
  · obtain ⟨a, c, s, ws, ns, rfl, _⟩ := h
    rfl
  · obtain ⟨a, c, sa, ws, ns, rfl, W, C, wl, N, nl, k⟩ := h
    have hu := hu_of hr
    have hu64 := hr.units
    refine ⟨_, (pss_cons (ps_set (i := 3) sc_Lapart.nd rfl (Or.inl rfl) pe_dnewT)
      (pss_cons (ps_for PassesOwn.never rfl (pi_range1 (by rfl) Bt.b_range (pa_cons (pe_callB (call_len_seqK (K := K) rfl) (by rfl) Bt.b_len bt_len (pa_cons (pv 1) pa_nil)) pa_nil)) (pg_name (i := 4) sc_Lapart.nd rfl (Or.inl rfl))
      (pss_one (ps_dput hu (pv 3) (pe_ix (ix_listK (K := K) rfl) (pv 1) (pv 4) (fun _ _ => rfl)) (pv 4) rfl)))
      (pss_cons (ps_set (i := 5) sc_Lapart.nd rfl (Or.inl rfl) (pe_lst pa_nil))
      (pss_cons (ps_for PassesOwn.never rfl (pi_listK (K := K) rfl (pv 2)) (pg_name (i := 6) sc_Lapart.nd rfl (Or.inl rfl))
      (pss_cons (ps_set (i := 7) sc_Lapart.nd rfl (Or.inl rfl) (pe_dget1 hu (pv 3) (pe_slice (sl_tupK (K := K) rfl) (pv 6) po_none (po_some pe_int)) ⟨rfl, rfl, rfl, rfl⟩))
      (pss_cons (ps_set (i := 8) sc_Lapart.nd rfl (Or.inl rfl) (pe_dget1 hu (pv 3) (pe_slice (sl_tupK (K := K) rfl) (pv 6) (po_some pe_int) po_none) ⟨rfl, rfl, rfl, rfl⟩))
      (pss_cons (ps_if (PW.pt (pw_or (pt_cmpR op_isN (pv 7) pe_non (nomark _)) (pw_or (pt_cmpR op_isN (pv 8) pe_non (nomark _)) (pw_or (pt_cmpR op_ge (pv 7) (pv 8) (nomark _)) (pw_or1 (pt_not (pt_val (pe_fn F_Lmeets (hr.mono (by decide)) (by rfl) (pa_cons (pe_ix (ix_listK (K := K) rfl) (pv 0) (pv 7) (fun _ _ => rfl)) (pa_cons (pe_ix (ix_listK (K := K) rfl) (pv 0) (pv 8) (fun _ _ => rfl)) pa_nil)))))))))) (pss_one (ps_ret pe_bl)) pss_nil)
      (pss_one (ps_expr (pe_appendK (K := K) rfl (pv 5) (pa_cons (pe_tup (pa_cons (pe_ix (ix_tupK (K := K) rfl) (pv 6) pe_int (fun _ _ => rfl)) (pa_cons (pe_ix (ix_tupK (K := K) rfl) (pv 6) pe_int (fun _ _ => rfl)) (pa_cons (pv 8) (pa_cons (pv 7) pa_nil))))) pa_nil))))))))
      (pss_cons (ps_set (i := 5) sc_Lapart.nd rfl (Or.inl rfl) (pe_callB (call_sortTK (K := K) rfl) (by rfl) Bt.b_sorted bt_sorted (pa_cons (pv 5) pa_nil)))
      (pss_cons (ps_for PassesOwn.never rfl (pi_range2 (by rfl) Bt.b_range (pa_cons pe_int (pa_cons (pe_callB (call_len_seqK (K := K) rfl) (by rfl) Bt.b_len bt_len (pa_cons (pv 5) pa_nil)) pa_nil))) (pg_name (i := 9) sc_Lapart.nd rfl (Or.inl rfl))
      (pss_one (ps_if (PW.pt (pw_and (pt_cmpR (op_eqDK (K := K) rfl hu64) (pe_slice (sl_tupK (K := K) rfl) (pe_ix (ix_listK (K := K) rfl) (pv 5) (pv 9) (fun _ _ => rfl)) po_none (po_some pe_int)) (pe_slice (sl_tupK (K := K) rfl) (pe_ix (ix_listK (K := K) rfl) (pv 5) (pe_op op_sub (pv 9) pe_int) (fun _ _ => rfl)) po_none (po_some pe_int)) (nomark _)) (pw_and1 (pt_cmpR op_lt (pe_ix (ix_tupK (K := K) rfl) (pe_ix (ix_listK (K := K) rfl) (pv 5) (pv 9) (fun _ _ => rfl)) pe_int (fun _ _ => rfl)) (pe_ix (ix_tupK (K := K) rfl) (pe_ix (ix_listK (K := K) rfl) (pv 5) (pe_op op_sub (pv 9) pe_int) (fun _ _ => rfl)) pe_int (fun _ _ => rfl)) (nomark _))))) (pss_one (ps_ret pe_bl)) pss_nil)))
      (pss_one (ps_ret pe_bl)))))))), ?_⟩
    intro d hd
    have s1 := same_new (o := HO.dT []) hd
    obtain ⟨cv, hcv, dcv⟩ := id C
    have cvl : cv.length = ws.length := by rw [dcv.length, List.length_map, nm_length]
    refine ⟨_, rfl, c, _, rfl, .inl (SqL.of (s1 _ _ hcv)), _, rfl, by omega, by omega, ?_⟩
    rw [show ((cv.length : Nat) : Int).toNat = ws.length by omega]
    refine for_range (lo := 0) (n := ws.length) (fun i σ H2 => ∃ (kvs : List (List Key × V)) (x4 : Option V), σ = [some (.ref a), some (.ref c), some (.ref sa), some (.ref d), x4, none, none, none, none, none] ∧ H2 d = some (.dT kvs) ∧ kvs.length ≤ i ∧ PlOk kvs ((nm ws).take i) ∧ Same H H2)
      ⟨[], none, rfl, upd_same, Nat.le_refl _, ⟨fun m x e => by simp at e, fun x _ => rfl⟩, s1⟩ ?_ ?_
    · rintro i σ H2 hi ⟨kvs, x4, rfl, hd2, kl, pl, sm⟩
      obtain ⟨y, ey⟩ : ∃ y, ws[i]? = some y := ⟨ws[i], by simp [hi]⟩
      obtain ⟨cv', t, hc', et, ht⟩ := prs_at (C.same sm) (nm_get ey)
      have ex := nm_get ey
      generalize hx : (y.1, cnt (ws.take i) y.1) = x at ex ht
      refine ⟨_, rfl, _, rfl, _, rfl, _, rfl, _, _, _, _, rfl, rfl, SqL.of hc', atI0 et, d, _, rfl, DPut.t (k := kx x) hd2 ht (by rw [sizeLine_eq]; omega), ?_⟩
      have tk : (nm ws).take (i + 1) = (nm ws).take i ++ [x] := by rw [List.take_add_one, ex]; rfl
      have tl : ((nm ws).take i).length = i := by rw [List.length_take, nm_length]; omega
      refine ⟨putK kvs (kx x) (V.int (0 + (i : Int))), _, rfl, upd_same, ?_, ⟨fun m z e => ?_, fun z hz => ?_⟩, fun b o e => ?_⟩
      · exact Nat.le_trans (length_putK ..) (by omega)
      · rw [valV_put]
        rw [tk] at e
        by_cases hm : m < i
        · rw [List.getElem?_append_left (by omega)] at e
          have ne : ¬ kx z = kx x := fun q => by
            have q := kx_inj q
            subst q
            have e' : (nm ws)[m]? = some z := by rw [List.getElem?_take_of_lt hm] at e; exact e
            have := nm_inj e' ex
            omega
          rw [if_neg ne]
          exact pl.1 m z e
        · rw [List.getElem?_append_right (by omega), tl] at e
          have ml : m - i < 1 := (List.getElem?_eq_some_iff.mp e).1
          have : m = i := by omega
          subst this
          rw [Nat.sub_self] at e
          cases e
          rw [if_pos rfl, Int.zero_add]
      · rw [tk] at hz
        have n1 : z ∉ (nm ws).take i := fun q => hz (List.mem_append.mpr (.inl q))
        have n2 : z ≠ x := fun q => hz (List.mem_append.mpr (.inr (by rw [q]; simp)))
        rw [valV_put, if_neg (fun q => n2 (kx_inj q))]
        exact pl.2 z n1
      · rw [upd_ne (ne_of_none e hd)]
        exact sm _ _ e
    rintro σ H2 ⟨kvs, x4, rfl, hd2, kl, pl, sm⟩
    rw [← nm_length ws, List.take_length] at pl
    -- rows = []
    refine ⟨(by show 0 ≤ sizeLine; decide), fun r hr0 => ?_⟩
    have s3 := same_new (o := HO.lst []) hr0
    have sm3 := sm.trans s3
    have hr00 : H r = none := sm.free hr0
    obtain ⟨us, hus, dus⟩ := id (N.same sm3)
    have usl : us.length = ns.length := by rw [dus.length, List.length_map]
    refine ⟨_, rfl, sa, rfl, ⟨_, SqL.of hus⟩, ?_⟩
    refine for_list (K := K) (a := sa) (xs := us) (fun i σ H4 => ∃ (x6 x7 x8 : Option V), σ = [some (.ref a), some (.ref c), some (.ref sa), some (.ref d), x4, some (.ref r), x6, x7, x8, none] ∧ Same H H4 ∧ H4 d = some (.dT kvs) ∧ NtsAt H4 r ((ns.take i).map (rowW ws)) ∧ ∀ x ∈ ns.take i, WantP ws x)
      ⟨none, none, none, rfl, sm3, s3 _ _ hd2, ⟨[], upd_same, by simp [Dats]⟩, by simp⟩ (fun i σ H4 _ ⟨_, _, _, _, sm4, _⟩ => by
        obtain ⟨us', e', _⟩ := N
        have e2 := sm3 _ _ e'
        rw [hus] at e2
        cases e2
        exact SqL.of (sm4 _ _ e')) ?_ ?_
    · rintro i v σ H4 hi ⟨x6, x7, x8, rfl, sm4, hd4, NR, wt⟩
      obtain ⟨us', e', d'⟩ := id N
      have : us' = us := by rw [sm3 _ _ e'] at hus; injection hus with q; injection q
      subst this
      obtain ⟨x, t, ex, rfl, ht⟩ := nts_get d' hi
      have ht4 := sm4 _ _ ht
      have no : ∀ {H' : Hp}, Same H H' → ¬ WantP ws x → Q (.bl false) H' := fun {H'} sm' hn => k false H' ⟨fun z => (by cases z), fun z => absurd (z.1 x (List.mem_of_getElem? ex)) hn⟩ sm'
      refine ⟨_, rfl, d, rfl, .inr ⟨_, .inl hd4⟩, _, rfl, _, rfl, _, _, rfl, SqT.of ht4, part4a (nV x) rfl, fun p1 hp1 => ?_⟩
      rw [show cutV (nV x) none (some 2) = [.int x.1, .int x.2.1] from cut4a ..]
      have s5 := same_new (o := HO.tup [V.int x.1, V.int x.2.1]) hp1
      refine ⟨_, DGet.t (k := kx (n1 x)) (s5 _ _ hd4) upd_same, ?_⟩
      refine ⟨_, rfl, d, rfl, .inr ⟨_, .inl (s5 _ _ hd4)⟩, _, rfl, _, rfl, _, _, rfl, SqT.of (s5 _ _ ht4), part4b (nV x) rfl, fun p2 hp2 => ?_⟩
      rw [show cutV (nV x) (some 2) none = [.int x.2.2.1, .int x.2.2.2] from cut4b ..]
      have s6 := same_new (o := HO.tup [V.int x.2.2.1, V.int x.2.2.2]) hp2
      have s56 := s5.trans s6
      refine ⟨_, DGet.t (k := kx (n2 x)) (s6 _ _ (s5 _ _ hd4)) upd_same, ?_⟩
      generalize upd (upd H4 p1 (HO.tup [V.int x.1, V.int x.2.1])) p2 (HO.tup [V.int x.2.2.1, V.int x.2.2.2]) = H6 at s56 ⊢
      have sm6 := sm4.trans s56
      refine ⟨_, rfl, rfl, _, rfl, ?_⟩
      by_cases m1 : n1 x ∈ nm ws
      rotate_left
      · rw [pl.2 _ m1]
        refine (show if true = true then _ else _ from iteT ?_)
        refine (show if true = true then _ else _ from iteT ?_)
        exact no sm6 fun ⟨i, j, _, _, z, _⟩ => m1 (List.mem_of_getElem? z.2.1)
      obtain ⟨i1, ei⟩ := List.getElem?_of_mem m1
      rw [pl.1 i1 _ ei]
      refine (show if false = true then _ else _ from iteF ?_)
      refine ⟨_, rfl, rfl, _, rfl, ?_⟩
      by_cases m2 : n2 x ∈ nm ws
      rotate_left
      · rw [pl.2 _ m2]
        refine (show if true = true then _ else _ from iteT ?_)
        refine (show if true = true then _ else _ from iteT ?_)
        exact no sm6 fun ⟨i, j, _, _, z, _⟩ => m2 (List.mem_of_getElem? z.2.2.1)
      obtain ⟨j1, ej⟩ := List.getElem?_of_mem m2
      rw [pl.1 j1 _ ej]
      refine (show if false = true then _ else _ from iteF ?_)
      refine ⟨_, rfl, _, rfl, _, _, rfl, rfl, _, rfl, ?_⟩
      by_cases ge : j1 ≤ i1
      · rw [decide_eq_true (show ((j1 : Nat) : Int) ≤ ((i1 : Nat) : Int) by omega)]
        refine (show if true = true then _ else _ from iteT ?_)
        refine (show if true = true then _ else _ from iteT ?_)
        exact no sm6 fun ⟨i, j, _, _, z, _⟩ => by
          have e1 := nm_inj z.2.1 ei
          have e2 := nm_inj z.2.2.1 ej
          have := z.2.2.2
          omega
      rw [decide_eq_false (show ¬ ((j1 : Nat) : Int) ≤ ((i1 : Nat) : Int) by omega)]
      refine (show if false = true then _ else _ from iteF ?_)
      obtain ⟨y, ey, qy⟩ := nm_some ei
      obtain ⟨z, ez, qz⟩ := nm_some ej
      obtain ⟨wv, w1, hw1, ew1, hq1⟩ := web_get (W.same sm6) ey
      obtain ⟨wv2, w2, hw2, ew2, hq2⟩ := web_get (W.same sm6) ez
      refine ⟨_, rfl, _, rfl, _, _, _, _, rfl, rfl, SqL.of hw1, atI_nat ew1, _, rfl, _, rfl, _, _, _, _, rfl, rfl, SqL.of hw2, atI_nat ew2, w1, w2, y, z, rfl, hq1, hq2, _, rfl, ?_⟩
      cases em : mt y z with
      | false =>
        refine (show if true = true then _ else _ from iteT ?_)
        exact no sm6 fun ⟨i, j, y', z', q, b1, b2, b3⟩ => by
          have e1 := nm_inj q.2.1 ei
          have e2 := nm_inj q.2.2.1 ej
          subst e1 e2
          rw [ey] at b1
          rw [ez] at b2
          cases b1
          cases b2
          rw [em] at b3
          cases b3
      | true =>
        refine (show if false = true then _ else _ from iteF ?_)
        have hne : x.1 ≠ x.2.2.1 := fun q => by
          have a1 : x.1 = y.1 := congrArg Prod.fst qy
          have a2 : x.2.2.1 = z.1 := congrArg Prod.fst qz
          have em := em
          unfold mt at em
          rw [if_pos (by rw [← a1, ← a2, q])] at em
          cases em
        have st : StrAt ws x i1 j1 := ⟨hne, ei, ej, by omega⟩
        have wx : WantP ws x := ⟨i1, j1, y, z, st, ey, ez, em⟩
        obtain ⟨p1e, p2e⟩ := pl_at st
        have ht6 := s56 _ _ ht4
        obtain ⟨rv, hrv, drv⟩ := id (NR.same s56)
        have rvl : rv.length ≤ 90000 := by
          rw [drv.length, List.length_map, List.length_map, List.length_take]
          omega
        refine ⟨_, rfl, .inl ⟨rfl, _, SqL.of hrv⟩, _, rfl, _, _, _, _, rfl, rfl, SqT.of ht6, rfl, _, rfl, _, _, _, _, rfl, rfl, SqT.of ht6, rfl, _, rfl, _, rfl, (by show 4 ≤ sizeLine; decide), fun tp htp => ?_⟩
        have s7 := same_new (o := HO.tup [V.int x.1, V.int x.2.2.1, V.int (j1 : Int), V.int (i1 : Int)]) htp
        refine ⟨r, rv, _, rfl, rfl, s7 _ _ hrv, by rw [sizeLine_eq]; omega, ?_⟩
        have k8 : Kp r (upd H6 tp (HO.tup [V.int x.1, V.int x.2.2.1, V.int (j1 : Int), V.int (i1 : Int)])) (upd (upd H6 tp (HO.tup [V.int x.1, V.int x.2.2.1, V.int (j1 : Int), V.int (i1 : Int)])) r (.lst (rv ++ [V.ref tp]))) := Kp.set
        have t8 := k8.tups (s7 _ _ hrv)
        have ndr : d ≠ r := ne_of (s7 _ _ (s56 _ _ hd4)) (s7 _ _ hrv) (by intro z; cases z)
        have tk : ns.take (i + 1) = ns.take i ++ [x] := by rw [List.take_add_one, ex]; rfl
        refine ⟨_, _, _, rfl, fun b o e => k8 _ _ (s7 _ _ (sm6 _ _ e)) (ne_of_none e hr00), k8 _ _ (s7 _ _ (s56 _ _ hd4)) ndr, ⟨_, upd_same, ?_⟩, fun x' hx' => ?_⟩
        · rw [tk, List.map_append, List.map_append]
          refine Dats.append (Dats.keep (fun a xs h => t8 _ _ (s7.tups _ _ h)) _ (imms_map _ imm_nD _) drv) (dats1 (dat_nt (x := rowW ws x) ?_))
          have := t8 _ _ (upd_same (H := H6) (a := tp) (o := HO.tup [V.int x.1, V.int x.2.2.1, V.int (j1 : Int), V.int (i1 : Int)]))
          refine this.trans ?_
          unfold rowW nV
          rw [p1e, p2e]
        · rw [tk] at hx'
          rcases List.mem_append.mp hx' with q | q
          · exact wt x' q
          · rw [List.mem_singleton.mp q]; exact wx
    · rintro σ H4 ⟨x6, x7, x8, rfl, sm4, hd4, NR, wt⟩
      rw [usl, List.take_length] at NR wt
      -- rows = sorted(rows)
      refine ⟨_, rfl, ?_⟩
      dsimp only [tNil]
      refine sort_nts NR fun q rs H5 hq NQ pm ss s5 => ?_
      have sm5 := sm4.trans s5
      obtain ⟨qv, hqv, dqv⟩ := id NQ
      have qvl : qv.length = rs.length := by rw [dqv.length, List.length_map]
      have rsl : rs.length ≤ 90000 := by rw [pm.length_eq, List.length_map]; exact nl
      have iff := ap_rows wt pm ss
      refine ⟨_, rfl, q, _, rfl, .inl (SqL.of hqv), 1, _, rfl, ⟨by decide, by decide, by omega, by omega⟩, ?_⟩
      refine for_range (lo := 1) (n := ((qv.length : Int) - 1).toNat) (fun i σ H6 => ∃ (x9 : Option V), σ = [some (.ref a), some (.ref c), some (.ref sa), some (.ref d), x4, some (.ref q), x6, x7, x8, x9] ∧ Same H5 H6 ∧ ∀ (j : Nat) x y, j < i → rs[j]? = some x → rs[j + 1]? = some y → ¬ (x.1 = y.1 ∧ x.2.1 = y.2.1 ∧ y.2.2.2 < x.2.2.1))
        ⟨none, rfl, Same.refl _, fun j x y h => absurd h (Nat.not_lt_zero _)⟩ ?_ ?_
      · rintro i σ H6 hi ⟨x9, rfl, s6, inv⟩
        have hqv6 := s6 _ _ hqv
        obtain ⟨x, ex⟩ : ∃ x, rs[i]? = some x := ⟨rs[i]'(by omega), by simp [show i < rs.length by omega]⟩
        obtain ⟨y, ey⟩ : ∃ y, rs[i + 1]? = some y := ⟨rs[i + 1]'(by omega), by simp [show i + 1 < rs.length by omega]⟩
        have vat : ∀ {j : Nat} {o : Nt}, rs[j]? = some o → ∃ t, qv[j]? = some (.ref t) ∧ H6 t = some (.tup (nV o)) := fun {j o} e => by
          have jl : j < qv.length := by have := (List.getElem?_eq_some_iff.mp e).1; omega
          obtain ⟨o', t, eo, ev, ht⟩ := nts_get dqv (i := j) (v := qv[j]) (by simp [jl])
          rw [e] at eo
          cases eo
          exact ⟨t, by rw [List.getElem?_eq_getElem jl, ev], s6 _ _ ht⟩
        obtain ⟨t1, et1, ht1⟩ := vat ex
        obtain ⟨t2, et2, ht2⟩ := vat ey
        have at2 : atI qv (1 + (i : Int)) = some (.ref t2) := by rw [show (1 + (i : Int)) = ((i + 1 : Nat) : Int) by omega]; exact atI_nat et2
        have at1 : atI qv (1 + (i : Int) - 1) = some (.ref t1) := by rw [show (1 + (i : Int) - 1) = ((i : Nat) : Int) by omega]; exact atI_nat et1
        refine ⟨_, rfl, _, rfl, _, _, _, _, rfl, rfl, SqL.of hqv6, at2, _, rfl, _, _, rfl, SqT.of ht2, part4a (nV y) rfl, fun p1 hp1 => ?_⟩
        rw [show cutV (nV y) none (some 2) = [.int y.1, .int y.2.1] from cut4a ..]
        have s7 := same_new (o := HO.tup [V.int y.1, V.int y.2.1]) hp1
        refine ⟨_, rfl, _, rfl, _, _, rfl, rfl, _, _, _, _, rfl, rfl, SqL.of (s7 _ _ hqv6), at1, _, rfl, _, _, rfl, SqT.of (s7 _ _ ht1), part4a (nV x) rfl, fun p2 hp2 => ?_⟩
        rw [show cutV (nV x) none (some 2) = [.int x.1, .int x.2.1] from cut4a ..]
        have s8 := same_new (o := HO.tup [V.int x.1, V.int x.2.1]) hp2
        have s78 := s7.trans s8
        refine ⟨_, _, dat_prs (x := (y.1, y.2.1)) (s8 _ _ upd_same), dat_prs (x := (x.1, x.2.1)) upd_same, rfl, rfl, _, rfl, ?_⟩
        have e : (if false = true then !PyData.eqv (pD (y.1, y.2.1)) (pD (x.1, x.2.1)) else PyData.eqv (pD (y.1, y.2.1)) (pD (x.1, x.2.1))) = decide (x.1 = y.1 ∧ x.2.1 = y.2.1) := by
          rw [if_neg (by decide), eqv_pD, Bool.eq_iff_iff, decide_eq_true_iff, decide_eq_true_iff, Prod.mk.injEq]
          exact ⟨fun z => ⟨z.1.symm, z.2.symm⟩, fun z => ⟨z.1.symm, z.2.symm⟩⟩
        rw [e]
        have next : ¬ (x.1 = y.1 ∧ x.2.1 = y.2.1 ∧ y.2.2.2 < x.2.2.1) → ∀ (j : Nat) x y, j < i + 1 → rs[j]? = some x → rs[j + 1]? = some y → ¬ (x.1 = y.1 ∧ x.2.1 = y.2.1 ∧ y.2.2.2 < x.2.2.1) := fun hc j x' y' hj e1 e2 => by
          rcases Nat.lt_succ_iff_lt_or_eq.mp hj with q | q
          · exact inv j x' y' q e1 e2
          · subst q
            rw [ex] at e1
            rw [ey] at e2
            cases e1
            cases e2
            exact hc
        by_cases hh : x.1 = y.1 ∧ x.2.1 = y.2.1
        rotate_left
        · rw [decide_eq_false hh]
          refine iteF ?_
          exact ⟨_, rfl, s6.trans s78, next fun z => hh ⟨z.1, z.2.1⟩⟩
        rw [decide_eq_true hh]
        refine iteT ?_
        refine ⟨_, rfl, _, rfl, _, _, _, _, rfl, rfl, SqL.of (s78 _ _ hqv6), at2, _, _, _, _, rfl, rfl, SqT.of (s78 _ _ ht2), rfl, _, rfl, _, rfl, _, _, rfl, rfl, _, _, _, _, rfl, rfl, SqL.of (s78 _ _ hqv6), at1, _, _, _, _, rfl, rfl, SqT.of (s78 _ _ ht1), rfl, _, _, rfl, rfl, _, rfl, ?_⟩
        by_cases hc : y.2.2.2 < x.2.2.1
        · rw [decide_eq_true hc]
          refine iteT ?_
          exact k false _ ⟨fun z => (by cases z), fun z => absurd ⟨hh.1, hh.2, hc⟩ (iff.mp z i x y ex ey)⟩ (sm5.trans (s6.trans s78))
        · rw [decide_eq_false hc]
          refine iteF ?_
          exact ⟨_, rfl, s6.trans s78, next fun z => hc z.2.2⟩
      · rintro σ H6 ⟨x9, rfl, s6, inv⟩
        refine k true H6 ⟨fun _ => iff.mpr fun j x y e1 e2 => inv j x y ?_ e1 e2, fun _ => rfl⟩ (sm5.trans s6)
        have := (List.getElem?_eq_some_iff.mp e2).1
        omega

/-! ### pairs of places that meet -/
abbrev PN := Nat × Nat
def mtAt (ws : List Tch) (i j : Nat) : Bool := match ws[i]?, ws[j]? with
  | some y, some z => mt y z
  | _, _ => false
theorem mtAt_of {ws : List Tch} {i j : Nat} {y z : Tch} (hi : ws[i]? = some y) (hj : ws[j]? = some z) : mtAt ws i j = mt y z := by unfold mtAt; rw [hi, hj]
def fsts (ws : List Tch) (g : Int) (j : Nat) : List Nat := (List.range j).filter fun i => decide (hnd ws i = g) && mtAt ws i j
def rowL (ws : List Tch) (g : Int) (j : Nat) : List PN := (fsts ws g j).reverse.map fun i => (i, j)
def lL (ws : List Tch) (g h : Int) (n : Nat) : List PN := (List.range n).flatMap fun j => if hnd ws j = h then rowL ws g j else []
theorem lL_succ (ws : List Tch) (g h : Int) (n : Nat) : lL ws g h (n + 1) = lL ws g h n ++ (if hnd ws n = h then rowL ws g n else []) := by
  unfold lL
  rw [List.range_succ, List.flatMap_append]
  simp
theorem fsts_len (ws : List Tch) (g : Int) (j : Nat) : (fsts ws g j).length ≤ j := by
  have := List.length_filter_le (fun i => decide (hnd ws i = g) && mtAt ws i j) (List.range j)
  rw [List.length_range] at this
  exact this
theorem lL_len (ws : List Tch) (g h : Int) : ∀ n, n ≤ 300 → (lL ws g h n).length ≤ n * 300
  | 0, _ => Nat.le_refl _
  | n + 1, hn => by
    rw [lL_succ, List.length_append]
    have h1 := lL_len ws g h n (by omega)
    have h2 := fsts_len ws g n
    split
    · unfold rowL
      rw [List.length_map, List.length_reverse]
      omega
    · simp
      omega
theorem mem_lL {ws : List Tch} {g h : Int} {n : Nat} {x : PN} : x ∈ lL ws g h n ↔ x.2 < n ∧ x.1 < x.2 ∧ mtAt ws x.1 x.2 = true ∧ hnd ws x.1 = g ∧ hnd ws x.2 = h := by
  unfold lL
  rw [List.mem_flatMap]
  constructor
  · rintro ⟨j, hj, hx⟩
    split at hx
    · rename_i e
      unfold rowL fsts at hx
      obtain ⟨i, hi, rfl⟩ := List.mem_map.mp hx
      obtain ⟨h1, h2⟩ := List.mem_filter.mp (List.mem_reverse.mp hi)
      rw [Bool.and_eq_true, decide_eq_true_iff] at h2
      exact ⟨List.mem_range.mp hj, List.mem_range.mp h1, h2.2, h2.1, e⟩
    · simp at hx
  · rintro ⟨h1, h2, h3, a, b⟩
    refine ⟨x.2, List.mem_range.mpr h1, ?_⟩
    rw [if_pos b]
    unfold rowL fsts
    exact List.mem_map.mpr ⟨x.1, List.mem_reverse.mpr (List.mem_filter.mpr ⟨List.mem_range.mpr h2, by rw [Bool.and_eq_true, decide_eq_true_iff]; exact ⟨a, h3⟩⟩), rfl⟩

/-! ### the law's wants, from the front -/
section
variable {a D : Addr} {xs : List V} {tc : TT} {te : TE} {Q : VK} {rest : St} {H1 : Hp}
theorem comp_datV (f : Nat → Option PyData) (hf : ∀ i d, f i = some d → imm d = true) (hD : H1 D = none) (hq : SqL K H1 a xs) (hx : xs.length ≤ 100000)
    (hs : ∀ i x H (G : Hp → Prop) (F : VK), i < xs.length → xs[xs.length - 1 - i]? = some x → Same H1 H → (∀ H', Same H H' → f i = none → G H') → (∀ y d H', Same H H' → f i = some d → Dat H' y d → F y H') → tc (some x :: rest) H fun b H3 => if b = true then te (some x :: rest) H3 F else G H3)
    (hd : ∀ H vs, Same H1 H → H D = some (.lst vs) → Dats H vs ((List.range xs.length).filterMap f) → Q (.ref D) H) : CompW (Itv K a xs.length) (gName 0) tc te Q D (none :: rest) H1 := by
  refine ⟨fun i m σ H => m = xs.length - i ∧ i ≤ xs.length ∧ (∃ v, σ = v :: rest) ∧ Same H1 H ∧ ∃ vs, H D = some (.lst vs) ∧ Dats H vs ((List.range i).filterMap f), ⟨xs.length, by simp, Nat.zero_le _, ⟨none, rfl⟩, same_new hD, [], upd_same, by simp [Dats]⟩, ?_⟩
  rintro i m σ H ⟨rfl, hi, ⟨v, rfl⟩, sm, vs, e, d⟩
  have q := sm.sqL _ _ hq
  by_cases hlt : i < xs.length
  · refine .inr ⟨⟨hlt, xs, q, rfl⟩, fun σ H => (∃ v, σ = v :: rest) ∧ Same H1 H ∧ ∃ vs, H D = some (.lst vs) ∧ Dats H vs ((List.range (i + 1)).filterMap f), fun σ' H' p' => ⟨xs.length - (i + 1), by omega, rfl, hlt, p'⟩, fun x H' y => ?_⟩
    obtain ⟨e', y⟩ := y
    subst e'
    have im := imms_fm hf (List.range i)
    refine hs i x H' _ _ hlt (y xs q) sm (fun H3 s3 ef => ⟨⟨_, rfl⟩, sm.trans s3, vs, s3 _ _ e, ?_⟩) (fun y dd H4 s4 ef dy => ?_)
    · rw [fm_succ, ef]
      simpa using Dats.keep s3.tups _ im d
    · have hl : vs.length ≤ i := by rw [d.length]; exact fm_len f i
      have kp : Kp D H4 (upd H4 D (.lst (vs ++ [y]))) := Kp.set
      have tp := kp.tups (s4 _ _ e)
      refine ⟨vs, s4 _ _ e, ?_, ⟨_, rfl⟩, (sm.trans s4).newly hD, vs ++ [y], upd_same, ?_⟩
      · rw [sizeLine_eq]; omega
      · rw [fm_succ, ef]
        exact dats_snoc (Dats.keep (fun a xs h => tp _ _ (s4.tups _ _ h)) _ im d) (Dat.keep tp _ (hf i dd ef) dy)
  · have e' : i = xs.length := by omega
    subst e'
    exact .inl ⟨Nat.le_refl _, hd H vs sm e d⟩
end
def prN (x : PN) : Prs := ((x.1 : Int), (x.2 : Int))
def iV (l : List Nat) : List V := l.map fun n : Nat => V.int (0 + (n : Int))
theorem fsts_fm (ws : List Tch) (g : Int) (j : Nat) : (List.range j).filterMap (fun i => if (decide (hnd ws i = g) && mtAt ws i j) = true then some (V.int (0 + (i : Int))) else none) = iV (fsts ws g j) := by
  unfold fsts iV
  induction (List.range j) with
  | nil => rfl
  | cons x l ih =>
    rw [List.filterMap_cons, List.filter_cons]
    by_cases h : (decide (hnd ws x = g) && mtAt ws x j) = true
    · rw [if_pos h, if_pos h, List.map_cons, ih]
    · rw [if_neg h, if_neg h]
      exact ih
theorem rev_get {α : Type} {l : List α} {i : Nat} (h : i < l.length) : l.reverse[i]? = l[l.length - 1 - i]? := List.getElem?_reverse h
theorem row_fm (ws : List Tch) (g : Int) (j : Nat) : (List.range (iV (fsts ws g j)).length).filterMap (fun i => ((rowL ws g j)[i]?).map fun x => pD (prN x)) = ((rowL ws g j).map prN).map pD := by
  have : (iV (fsts ws g j)).length = (rowL ws g j).length := by unfold iV rowL; rw [List.length_map, List.length_map, List.length_reverse]
  rw [this]
  generalize rowL ws g j = l
  induction l with
  | nil => rfl
  | cons x l ih =>
    rw [List.length_cons, List.range_succ_eq_map, List.filterMap_cons, List.filterMap_map]
    have e : List.filterMap ((fun i => ((x :: l)[i]?).map fun x => pD (prN x)) ∘ Nat.succ) (List.range l.length) = (l.map prN).map pD := by rw [← ih]; rfl
    rw [e]
    rfl
def spLwants (K : PySem.W.Frag) : Sp := fun vs H Q _ => ∃ (a : Addr) (ws : List Tch) (g h : Int), vs = [.ref a, .int g, .int h] ∧ WebAt H a ws ∧ ws.length ≤ 300 ∧ ∀ (r : Addr) (H' : Hp), H r = none → PrsAt H' r ((lL ws g h ws.length).map prN) → Same H H' → Q (.ref r) H'
theorem ok_Lwants {f : Addr} {fd : FuncData} (F : Fun K "_law_wants" "_law_wants" s_Lwants f fd) (F_Lmeets : FnAt P w K mg base 1 "_law_meets" ["one", "other"] (spMt K)) (Bt : Blt mg) : FnOk P w K mg base CX0 2 f fd ["web", "hand", "other"] (spLwants K) := by
  refine F.ok sc_Lwants (fun vs H Q E h => ?_) (fun cdv A outer s H vs Q E hr h => ?_)
  · obtain ⟨a, ws, g, h, rfl, _⟩ := h
    rfl
  · obtain ⟨a, ws, g, h, rfl, W, wl, k⟩ := h
    obtain ⟨vs, ha, dv⟩ := id W
    have vlen : vs.length = ws.length := by rw [dv.length, List.length_map]
    refine ⟨_, (pss_cons (ps_set (i := 3) sc_Lwants.nd rfl (Or.inl rfl) (pe_lst pa_nil))
      (pss_cons (ps_for PassesOwn.never rfl (pi_range1 (by rfl) Bt.b_range (pa_cons (pe_callB (call_len_seqK (K := K) rfl) (by rfl) Bt.b_len bt_len (pa_cons (pv 0) pa_nil)) pa_nil)) (pg_name (i := 4) sc_Lwants.nd rfl (Or.inr rfl))
      (pss_one (ps_if (pt_cmpR op_eq (pe_ix (ix_tupK (K := K) rfl) (pe_ix (ix_listK (K := K) rfl) (pv 0) (pv 4) (fun _ _ => rfl)) pe_int (fun _ _ => rfl)) (pv 2) (nomark _)) (pss_cons (ps_setC (i := 5) rfl sc_Lwants.nd rfl (Or.inl rfl) (N := ["i", "hand", "web", "j"]) (own := ["i"]) (caps := [1, 0, 4]) (CompScope.of (by kernel_rfl)) (pi_range1 (by rfl) Bt.b_range (pa_cons (pv 4) pa_nil)) (fun _ _ _ _ => (pg_name (i := 0) (show List.Nodup (["i", "hand", "web", "j"] : List Str) by decide +kernel) rfl (Or.inl rfl))) (fun _ _ _ _ => (pts_one (PW.pt (pw_and (pt_cmpR op_eq (pe_ix (ix_tupK (K := K) rfl) (pe_ix (ix_listK (K := K) rfl) (pv 2) (pv 0) (fun _ _ => rfl)) pe_int (fun _ _ => rfl)) (pv 1) (nomark _)) (pw_and1 (pt_val (pe_fn F_Lmeets (hr.mono (by decide)) (by rfl) (pa_cons (pe_ix (ix_listK (K := K) rfl) (pv 2) (pv 0) (fun _ _ => rfl)) (pa_cons (pe_ix (ix_listK (K := K) rfl) (pv 2) (pv 3) (fun _ _ => rfl)) pa_nil))))))))) (fun _ _ _ _ => (pv 0)))
      (pss_one (ps_expr (pe_bmK (K := K) rfl PySem.F.plainAttrs_list PySem.F.slot_list_extend PySem.F.type_list_extend mt_extend (pv 3) (pa_cons (pe_comp rfl (N := ["i", "j"]) (own := ["i"]) (caps := [4]) (CompScope.of (by kernel_rfl)) (pi_reveK (K := K) rfl (by rfl) Bt.b_reversed (pa_cons (pv 5) pa_nil)) (fun _ _ _ _ => (pg_name (i := 0) (show List.Nodup (["i", "j"] : List Str) by decide +kernel) rfl (Or.inl rfl))) (fun _ _ _ _ => pts_nil) (fun _ _ _ _ => (pe_tup (pa_cons (pv 0) (pa_cons (pv 1) pa_nil))))) pa_nil))))) pss_nil)))
      (pss_one (ps_ret (pv 3))))), ?_⟩
    refine ⟨(by show 0 ≤ sizeLine; decide), fun r hr0 => ?_⟩
    have s1 := same_new (o := HO.lst []) hr0
    refine ⟨_, rfl, a, _, rfl, .inl (SqL.of (s1 _ _ ha)), _, rfl, by omega, by omega, ?_⟩
    rw [show ((vs.length : Nat) : Int).toNat = ws.length by omega]
    refine for_range (lo := 0) (n := ws.length) (fun j σ H2 => ∃ (x1 x2 : Option V), σ = [some (.ref a), some (.int g), some (.int h), some (.ref r), x1, x2] ∧ Same H H2 ∧ PrsAt H2 r ((lL ws g h j).map prN))
      ⟨none, none, rfl, s1, ⟨[], upd_same, by simp [lL, Dats]⟩⟩ ?_ ?_
    · rintro j σ H2 hj ⟨x1, x2, rfl, sm, P2⟩
      obtain ⟨y, ey⟩ : ∃ y, ws[j]? = some y := ⟨ws[j], by simp [hj]⟩
      have hyj := hnd_of ey
      have W2 := W.same sm
      obtain ⟨vs2, t2, ha2, et2, ht2⟩ := web_get W2 ey
      refine ⟨_, rfl, _, rfl, _, _, _, _, rfl, rfl, SqL.of ha2, atI0 et2, _, _, _, _, rfl, rfl, SqT.of ht2, rfl, _, rfl, rfl, _, rfl, ?_⟩
      rw [lL_succ, hyj]
      by_cases eh : y.1 = h
      rotate_left
      · rw [decide_eq_false (fun q => eh (by injection q))]
        refine iteF ?_
        rw [if_neg eh, List.append_nil]
        exact ⟨_, _, rfl, sm, P2⟩
      rw [decide_eq_true (by rw [eh])]
      refine iteT ?_
      rw [if_pos eh]
      -- firsts
      refine ⟨_, rfl, _, rfl, by omega, by omega, fun D hD => ?_⟩
      rw [show (0 + (j : Int)).toNat = j by omega]
      refine comp_valR (fun i => if (decide (hnd ws i = g) && mtAt ws i j) = true then some (V.int (0 + (i : Int))) else none) hD (by omega) (fun i H3 G F hi s3 kG kF => ?_) (fun H3 s3 e3 => ?_)
      · have hil : i < ws.length := by omega
        obtain ⟨x, ex⟩ : ∃ x, ws[i]? = some x := ⟨ws[i], by simp [hil]⟩
        have W4 := W2.same s3
        obtain ⟨vs', t1, ha4, e1, ht1⟩ := web_get W4 ex
        obtain ⟨vs'', t2', ha4', e2, ht2'⟩ := web_get W4 ey
        rw [hnd_of ex, mtAt_of ex ey] at kG kF
        refine ⟨_, rfl, _, rfl, _, _, _, _, rfl, rfl, SqL.of ha4, atI0 e1, _, _, _, _, rfl, rfl, SqT.of ht1, rfl, _, rfl, rfl, _, rfl, ?_⟩
        by_cases eg : x.1 = g
        · rw [decide_eq_true (show V.int x.1 = V.int g by rw [eg])]
          refine iteT ?_
          refine ⟨_, rfl, _, rfl, _, _, _, _, rfl, rfl, SqL.of ha4, atI0 e1, _, rfl, _, rfl, _, _, _, _, rfl, rfl, SqL.of ha4', atI0 e2, t1, t2', x, y, rfl, ht1, ht2', _, rfl, ?_⟩
          rw [decide_eq_true eg, Bool.true_and] at kG kF
          cases em : mt x y with
          | true =>
            rw [em] at kF
            refine iteT ?_
            exact ⟨_, rfl, kF _ H3 (Same.refl _) rfl⟩
          | false =>
            rw [em] at kG
            refine iteF ?_
            exact kG H3 (Same.refl _) rfl
        · rw [decide_eq_false (show ¬ V.int x.1 = V.int g from fun q => eg (by injection q))]
          refine iteF ?_
          rw [decide_eq_false eg, Bool.false_and] at kG
          exact kG H3 (Same.refl _) rfl
      rw [fsts_fm] at e3
      have hD0 : H D = none := sm.free hD
      have fl := fsts_len ws g j
      have il : (iV (fsts ws g j)).length = (fsts ws g j).length := by rw [iV, List.length_map]
      -- found.extend([.. for i in reversed(firsts)])
      obtain ⟨ts, hts, dts⟩ := id (P2.same s3)
      have tsl : ts.length = (lL ws g h j).length := by rw [dts.length, List.length_map, List.length_map]
      have tll := lL_len ws g h j (by omega)
      refine ⟨_, rfl, .inl ⟨rfl, _, SqL.of hts⟩, _, rfl, D, _, rfl, SqL.of e3, fun D2 hD2 => ?_⟩
      refine comp_datV (K := K) (xs := iV (fsts ws g j)) (fun i => ((rowL ws g j)[i]?).map fun x => pD (prN x)) (fun i d h => ?_) hD2 (SqL.of e3) (by omega) (fun i v H4 G F hil hi s4 kG kF => ?_) (fun H4 vs4 s4 e4 d4 => ?_)
      · cases e : (rowL ws g j)[i]? with
        | none => rw [e] at h; cases h
        | some x => rw [e] at h; cases h; rfl
      · have hf : i < (fsts ws g j).length := by omega
        rw [il] at hi
        unfold iV at hi
        rw [List.getElem?_map, ← rev_get hf] at hi
        have er : (rowL ws g j)[i]? = ((fsts ws g j).reverse[i]?).map fun i => (i, j) := by unfold rowL; rw [List.getElem?_map]
        cases e : (fsts ws g j).reverse[i]? with
        | none => rw [e] at hi; cases hi
        | some n =>
          rw [e] at hi er
          cases hi
          rw [er] at kF
          refine iteT (B := G H4) ?_
          refine ⟨_, rfl, _, rfl, (by show 2 ≤ sizeLine; decide), fun q hq => ?_⟩
          refine kF _ _ _ (same_new hq) rfl (dat_prs (x := prN (n, j)) ?_)
          rw [upd_same]
          show some (HO.tup [V.int (0 + (n : Int)), V.int (0 + (j : Int))]) = some (HO.tup [V.int (n : Int), V.int (j : Int)])
          rw [Int.zero_add, Int.zero_add]
      · rw [row_fm] at d4
        have v4l : vs4.length ≤ 300 := by
          rw [d4.length, List.length_map, List.length_map]
          unfold rowL
          rw [List.length_map, List.length_reverse]
          omega
        have hts4 := s4 _ _ hts
        refine ⟨r, D2, _, _, rfl, rfl, hts4, e4, by rw [sizeLine_eq]; omega, ?_⟩
        have k6 : Kp r H4 (upd H4 r (.lst (ts ++ vs4))) := Kp.set
        have t6 := k6.tups hts4
        refine ⟨_, _, rfl, fun b o eb => k6 _ _ (s4 _ _ (s3 _ _ (sm _ _ eb))) (ne_of_none eb hr0), ts ++ vs4, upd_same, ?_⟩
        rw [List.map_append, List.map_append]
        exact Dats.append (Dats.keep (fun a xs h => t6 _ _ (s4.tups _ _ h)) _ (imms_map _ imm_pD _) dts) (Dats.keep t6 _ (imms_map _ imm_pD _) d4)
    · rintro σ H2 ⟨x1, x2, rfl, sm, P2⟩
      exact ⟨_, rfl, k r H2 hr0 P2 sm⟩

theorem fm_pn (L : List PN) (p : PN → Bool) : (List.range L.length).filterMap (fun i => (L[i]?).bind fun o => if p o = true then some (pD (prN o)) else none) = ((L.filter p).map prN).map pD := by
  induction L with
  | nil => rfl
  | cons x l ih =>
    rw [List.length_cons, List.range_succ_eq_map, List.filterMap_cons, List.filterMap_map, List.filter_cons]
    have e : List.filterMap ((fun i => ((x :: l)[i]?).bind fun o => if p o = true then some (pD (prN o)) else none) ∘ Nat.succ) (List.range l.length) = ((l.filter p).map prN).map pD := by rw [← ih]; rfl
    rw [e]
    cases h : p x with
    | true => simp [h]
    | false => simp [h]
/-! ### wants apart from the front: how many, and where -/
def spF32 (K : PySem.W.Frag) : Sp := fun vs H Q _ => ∃ (a : Addr) (ws : List Tch) (g h : Int), vs = [.ref a, .int g, .int h] ∧ WebAt H a ws ∧ ws.length ≤ 300 ∧ ∀ (r : Addr) (L : List PN) (H' : Hp), H r = none → PrsAt H' r (L.map prN) → L.length ≤ 300 → (∀ z ∈ L, z.1 < ws.length ∧ z.2 < ws.length) → Same H H' → Q (.ref r) H'
theorem ok_F32 {f : Addr} {fd : FuncData} (F : Fun K "_law_front" "_law_front" s_Lfront f fd) (F_Lwants : FnAt P w K mg base 2 "_law_wants" ["web", "hand", "other"] (spLwants K)) (Bt : Blt mg) : FnOk P w K mg base CX0 3 f fd ["web", "hand", "other"] (spF32 K) := by
  refine F.ok sc_Lfront (fun vs H Q E h => ?_) (fun cdv A outer s H vs Q E hr h => ?_)
  · obtain ⟨a, ws, g, h, rfl, _⟩ := h
    rfl
  · obtain ⟨a, ws, g, h, rfl, W, wl, k⟩ := h
    have hu64 := hr.units
    refine ⟨_, (pss_cons (ps_set (i := 3) sc_Lfront.nd rfl (Or.inl rfl) (pe_fn F_Lwants (hr.mono (by decide)) (by rfl) (pa_cons (pv 0) (pa_cons (pv 1) (pa_cons (pv 2) pa_nil)))))
      (pss_cons (ps_set (i := 4) sc_Lfront.nd rfl (Or.inl rfl) (pe_lst pa_nil))
      (pss_cons (ps_for PassesOwn.never rfl (pi_range1 (by rfl) Bt.b_range (pa_cons (pe_callB (call_len_seqK (K := K) rfl) (by rfl) Bt.b_len bt_len (pa_cons (pv 3) pa_nil)) pa_nil)) (pg_name (i := 5) sc_Lfront.nd rfl (Or.inl rfl))
      (pss_one (ps_if (pt_cmpR (op_neDK (K := K) rfl hu64) (pv 3) (pe_lst pa_nil) (nomark _)) (pss_cons (ps_set (i := 6) sc_Lfront.nd rfl (Or.inr rfl) (pe_ix (ix_listK (K := K) rfl) (pv 3) pe_int (fun _ _ => rfl)))
      (pss_cons (ps_expr (pe_appendK (K := K) rfl (pv 4) (pa_cons (pv 6) pa_nil)))
      (pss_one (ps_setC (i := 3) rfl sc_Lfront.nd rfl (Or.inl rfl) (N := ["one", "want"]) (own := ["one"]) (caps := [6]) (CompScope.of (by kernel_rfl)) (pi_listK (K := K) rfl (pv 3)) (fun _ _ _ _ => (pg_name (i := 0) (show List.Nodup (["one", "want"] : List Str) by decide +kernel) rfl (Or.inl rfl))) (fun _ _ _ _ => (pts_one (pt_cmpR op_gt (pe_ix (ix_tupK (K := K) rfl) (pv 0) pe_int (fun _ _ => rfl)) (pe_ix (ix_tupK (K := K) rfl) (pv 1) pe_int (fun _ _ => rfl)) (nomark _)))) (fun _ _ _ _ => (pv 0)))))) pss_nil)))
      (pss_one (ps_ret (pv 4)))))), ?_⟩
    refine ⟨_, rfl, _, rfl, _, rfl, a, ws, g, h, rfl, W, wl, fun l H1 hl0 PL s1 => ?_⟩
    refine ⟨(by show 0 ≤ sizeLine; decide), fun fo hfo => ?_⟩
    have s2 := same_new (o := HO.lst []) hfo
    have hfo0 : H fo = none := s1.free hfo
    obtain ⟨lv, hl, dl⟩ := id PL
    have lvl : lv.length = (lL ws g h ws.length).length := by rw [dl.length, List.length_map, List.length_map]
    have ll := lL_len ws g h ws.length wl
    refine ⟨_, rfl, l, _, rfl, .inl (SqL.of (s2 _ _ hl)), _, rfl, by omega, by omega, ?_⟩
    rw [show ((lv.length : Nat) : Int).toNat = (lL ws g h ws.length).length by omega]
    refine for_range (lo := 0) (n := (lL ws g h ws.length).length) (fun n σ H2 => ∃ (l2 : Addr) (L F : List PN) (b : Nat) (x2 x3 : Option V), σ = [some (.ref a), some (.int g), some (.int h), some (.ref l2), some (.ref fo), x2, x3] ∧ Same H H2 ∧ PrsAt H2 fo (F.map prN) ∧ PrsAt H2 l2 (L.map prN) ∧ l2 ≠ fo ∧
        L.length ≤ 90000 ∧ F.length ≤ b ∧ b ≤ ws.length ∧ (∀ z ∈ L, b ≤ z.1 ∧ z.1 < z.2 ∧ z.2 < ws.length) ∧ ∀ z ∈ F, z.1 < ws.length ∧ z.2 < ws.length)
      ⟨l, lL ws g h ws.length, [], 0, none, none, rfl, s1.trans s2, ⟨[], upd_same, by simp [Dats]⟩, PL.same s2, ne_of_none hl hfo, by omega, Nat.le_refl _, Nat.zero_le _, fun z hz => ⟨Nat.zero_le _, (mem_lL.mp hz).2.1, (mem_lL.mp hz).1⟩, by simp⟩ ?_ ?_
    · rintro n σ H2 hn ⟨l2, L, F, b, x2, x3, rfl, sm, PF, P2, nlf, Ll, fb, bl, low, fin⟩
      obtain ⟨l2v, hl2, dl2⟩ := id P2
      refine ⟨_, rfl, (by show 0 ≤ sizeLine; decide), fun e he => ?_⟩
      have s3 := same_new (o := HO.lst []) he
      refine ⟨_, _, dat_list (s3 _ _ hl2) (Dats.keep s3.tups _ (imms_map _ imm_pD _) dl2), dat_list (ds := ([] : List Prs).map pD) upd_same (by simp [Dats]), shaped_prs _, shaped_prs [], _, rfl, ?_⟩
      rw [if_pos rfl, eqv_list pD eqv_pD]
      have PF3 := PF.same s3
      have P3 := P2.same s3
      have sm3 := sm.trans s3
      generalize upd H2 e (HO.lst []) = H3 at PF3 P3 sm3 ⊢
      cases L with
      | nil =>
        refine iteNS rfl ?_
        exact ⟨l2, [], F, b, _, _, rfl, sm3, PF3, P3, nlf, Ll, fb, bl, low, fin⟩
      | cons x r =>
        rw [show (!decide (List.map prN (x :: r) = [])) = true by simp]
        refine iteT ?_
        obtain ⟨q1, q2, q3⟩ := low x (.head _)
        obtain ⟨l3v, hl3, dl3⟩ := id P3
        obtain ⟨v0, e0⟩ : ∃ v, l3v[0]? = some v := by
          have : 0 < l3v.length := by rw [dl3.length]; simp
          exact ⟨l3v[0], by simp [this]⟩
        obtain ⟨y, tw, ey, rfl, htw⟩ := prs_get dl3 e0
        cases ey
        refine ⟨_, rfl, _, _, _, _, rfl, rfl, SqL.of hl3, atI_nat (j := 0) e0, ?_⟩
        obtain ⟨fv, hfv, dfv⟩ := id PF3
        have fvl : fv.length = F.length := by rw [dfv.length, List.length_map, List.length_map]
        refine ⟨_, rfl, .inl ⟨rfl, _, SqL.of hfv⟩, _, rfl, fo, fv, _, rfl, rfl, hfv, by rw [sizeLine_eq]; omega, ?_⟩
        have kX : Kp fo H3 (upd H3 fo (.lst (fv ++ [V.ref tw]))) := Kp.set
        have tX := kX.tups hfv
        have FX : PrsAt (upd H3 fo (.lst (fv ++ [V.ref tw]))) fo ((F ++ [x]).map prN) := by
          refine ⟨_, upd_same, ?_⟩
          rw [List.map_append, List.map_append]
          exact Dats.append (Dats.keep tX _ (imms_map _ imm_pD _) dfv) (dats1 (dat_prs (x := prN x) (tX _ _ htw)))
        have smX : Same H (upd H3 fo (.lst (fv ++ [V.ref tw]))) := fun b o eb => kX _ _ (sm3 _ _ eb) (ne_of_none eb hfo0)
        have PX : PrsAt (upd H3 fo (.lst (fv ++ [V.ref tw]))) l2 (List.map prN (x :: r)) := P3.kp hfv kX nlf
        have htwX := tX _ _ htw
        generalize upd H3 fo (.lst (fv ++ [V.ref tw])) = HX at FX smX PX htwX ⊢
        obtain ⟨uX, hlX, dlX⟩ := id PX
        have uXl : uX.length = (x :: r).length := by rw [dlX.length, List.length_map, List.length_map]
        refine ⟨_, rfl, l2, rfl, ⟨_, SqL.of hlX⟩, fun D2 hD2 => ?_⟩
        refine comp_datL (K := K) (xs := uX) (fun i => ((x :: r)[i]?).bind fun z => if decide (x.2 < z.1) = true then some (pD (prN z)) else none) (fun i d h => ?_) hD2 (SqL.of hlX) (by omega) (fun i v H8 G F' hi sY kG kF => ?_) (fun H8 vs8 sY e8 d8 => ?_)
        · cases e : (x :: r)[i]? with
          | none => rw [e] at h; cases h
          | some z =>
            rw [e] at h
            simp only [Option.bind_some] at h
            split at h
            · cases h; rfl
            · cases h
        · obtain ⟨y, t', e1, rfl, ht'⟩ := prs_get dlX hi
          rw [List.getElem?_map] at e1
          cases eo' : (x :: r)[i]? with
          | none => rw [eo'] at e1; cases e1
          | some z =>
            rw [eo'] at e1 kG kF
            cases e1
            simp only [Option.bind_some] at kG kF
            refine ⟨_, rfl, _, _, _, _, rfl, rfl, SqT.of (sY _ _ ht'), rfl, _, rfl, _, _, _, _, rfl, rfl, SqT.of (sY _ _ htwX), rfl, _, _, rfl, rfl, _, rfl, ?_⟩
            by_cases q : x.2 < z.1
            · rw [if_pos (decide_eq_true q)] at kF
              rw [decide_eq_true (show (prN z).1 > (prN x).2 by show (z.1 : Int) > (x.2 : Int); omega)]
              refine iteT ?_
              exact ⟨_, rfl, kF _ _ _ (Same.refl _) rfl (dat_prs (sY _ _ ht'))⟩
            · rw [if_neg (by rw [decide_eq_true_iff]; exact q)] at kG
              rw [decide_eq_false (show ¬ (prN z).1 > (prN x).2 by show ¬ (z.1 : Int) > (x.2 : Int); omega)]
              refine iteF ?_
              exact kG _ (Same.refl _) rfl
        · rw [uXl, fm_pn] at d8
          have fl := List.length_filter_le (fun z : PN => decide (x.2 < z.1)) (x :: r)
          refine ⟨D2, _, F ++ [x], x.2 + 1, _, _, rfl, smX.trans sY, FX.same sY, ⟨vs8, e8, d8⟩, ?_, by omega, by rw [List.length_append, List.length_singleton]; omega, by omega, fun z hz => ?_, fun z hz => ?_⟩
          · obtain ⟨_, e1, _⟩ := FX
            exact (ne_of_none e1 hD2).symm
          · obtain ⟨z1, z2⟩ := List.mem_filter.mp hz
            have z2 := of_decide_eq_true z2
            obtain ⟨_, w2, w3⟩ := low z z1
            exact ⟨by omega, w2, w3⟩
          · rcases List.mem_append.mp hz with q | q
            · exact fin z q
            · rw [List.mem_singleton.mp q]; exact ⟨by omega, q3⟩
    · rintro σ H2 ⟨l2, L, F, b, x2, x3, rfl, sm, PF, P2, nlf, Ll, fb, bl, low, fin⟩
      exact ⟨_, rfl, k fo F H2 hfo0 PF (by omega) fin sm⟩

/-! ### wants apart from behind -/
def pK (x : Prs) : List Int := [x.1, x.2]
def toP : List Int → Prs
  | [a, b] => (a, b)
  | _ => (0, 0)
theorem tupK_prs {H : Hp} {t : Addr} {x : Prs} (h : H t = some (.tup [.int x.1, .int x.2])) : tupK H (.ref t) = pK x := by
  unfold tupK
  dsimp only
  rw [h]
  rfl
theorem prs_mem {H : Hp} {vs : List V} {ns : List Prs} (d : Dats H vs (ns.map pD)) {v : V} (hv : v ∈ vs) : ∃ t x, v = .ref t ∧ x ∈ ns ∧ H t = some (.tup [.int x.1, .int x.2]) := by
  obtain ⟨i, hi, e⟩ := List.getElem_of_mem hv
  obtain ⟨x, t, ex, ev, ht⟩ := prs_get d (i := i) (v := v) (by rw [List.getElem?_eq_getElem hi, e])
  exact ⟨t, x, ev, List.mem_of_getElem? ex, ht⟩
theorem prs_map {H : Hp} : ∀ {vs : List V} {ns : List Prs}, Dats H vs (ns.map pD) → vs.map (fun v => toP (tupK H v)) = ns
  | [], [], _ => rfl
  | [], _ :: _, h => by simp only [List.map_cons, Dats] at h
  | _ :: _, [], h => by simp only [List.map_nil, Dats] at h
  | v :: vs, n :: ns, h => by
    simp only [List.map_cons, Dats] at h
    obtain ⟨t, rfl, ht⟩ := dat_prs_inv h.1
    rw [List.map_cons, prs_map h.2, tupK_prs ht]
    rfl
theorem prs_of {H : Hp} : ∀ {vs : List V}, (∀ v ∈ vs, ∃ t x, v = V.ref t ∧ H t = some (.tup [.int (x : Prs).1, .int x.2])) → Dats H vs ((vs.map fun v => toP (tupK H v)).map pD)
  | [], _ => by simp [Dats]
  | v :: vs, h => by
    obtain ⟨t, x, rfl, ht⟩ := h v (.head _)
    simp only [List.map_cons, Dats]
    exact ⟨by rw [tupK_prs ht]; exact dat_prs ht, prs_of fun v hv => h v (.tail _ hv)⟩
theorem sort_prs {K : PySem.W.Frag} {H : Hp} {p : Addr} {ns : List Prs} {Q : VK} (N : PrsAt H p ns) (k : ∀ l ns' H', H l = none → PrsAt H' l ns' → ns'.Perm ns → Same H H' → Q (.ref l) H') : rSortT K [.ref p] H Q := by
  obtain ⟨ys, hp, d⟩ := N
  refine ⟨p, ys, 2, tupK H, rfl, SqL.of hp, by decide, fun y hy => ?_, fun l zs hl pz sz => ?_⟩
  · obtain ⟨t, x, rfl, _, ht⟩ := prs_mem d hy
    exact ⟨t, rfl, by rw [tupK_prs ht]; exact SqT.of ht, by rw [tupK_prs ht]; rfl⟩
  · have sm := same_new (o := HO.lst zs) hl
    have all : ∀ v ∈ zs, ∃ t x, v = V.ref t ∧ H t = some (.tup [.int (x : Prs).1, .int x.2]) := fun v hv => by
      obtain ⟨t, x, e, _, ht⟩ := prs_mem d (pz.mem_iff.mp hv)
      exact ⟨t, x, e, ht⟩
    refine k l (zs.map fun v => toP (tupK H v)) _ hl ⟨zs, upd_same, Dats.keep sm.tups _ (imms_map _ imm_pD _) (prs_of all)⟩ ?_ sm
    rw [← prs_map d]
    exact pz.map _
def neg1 (z : Prs) : Prs := (0 - z.1, z.2)
theorem fm_prs {α : Type} (l : List α) (f : α → Prs) : (List.range l.length).filterMap (fun i => (l[i]?).map fun x => pD (f x)) = (l.map f).map pD := by
  induction l with
  | nil => rfl
  | cons x l ih =>
    rw [List.length_cons, List.range_succ_eq_map, List.filterMap_cons, List.filterMap_map]
    have e : List.filterMap ((fun i => ((x :: l)[i]?).map fun x => pD (f x)) ∘ Nat.succ) (List.range l.length) = (l.map f).map pD := by rw [← ih]; rfl
    rw [e]
    rfl
section
variable {a D : Addr} {te : TE} {Q : VK} {rest : St} {H1 : Hp} {ps : List Prs}
theorem comp_neg (N : PrsAt H1 a ps) (hl : ps.length ≤ 100000) (hD : H1 D = none) (hte : ∀ x y H F, (∀ t H', Same H H' → H' t = some (.tup [.int (0 - x), .int y]) → F (.ref t) H') → te (some (.int x) :: some (.int y) :: rest) H F)
    (k : ∀ H, Same H1 H → PrsAt H D (ps.map neg1) → Q (.ref D) H) : CompW (Itl K a) (gTup K 2 (gCons (gName 0) (gCons (gName 1) gNil))) tAll te Q D (none :: none :: rest) H1 := by
  obtain ⟨vs, ha, d⟩ := N
  have vl : vs.length = ps.length := by rw [d.length, List.length_map]
  refine comp_datP (K := K) (fun i => (ps[i]?).map fun z => pD (neg1 z)) (fun i d h => ?_) hD ha (by omega) (fun i v hi => ?_) (fun i t x y H G F hi ht s kG kF => ?_) (fun H us s e2 d2 => ?_)
  · cases e : ps[i]? with
    | none => rw [e] at h; cases h
    | some z => rw [e] at h; cases h; rfl
  · obtain ⟨z, t, _, rfl, ht⟩ := prs_get d hi
    exact ⟨t, _, _, rfl, ht⟩
  · obtain ⟨z, t', ez, e, ht'⟩ := prs_get d hi
    cases e
    rw [ht] at ht'
    cases ht'
    rw [ez] at kF
    refine iteT (B := G H) ?_
    exact hte _ _ _ _ fun u H' s' hu => kF _ _ _ s' rfl (dat_prs (x := neg1 z) hu)
  · rw [vl, fm_prs ps neg1] at d2
    exact k H s ⟨us, e2, d2⟩
end
theorem fm_pf (L : List Prs) (p : Prs → Bool) : (List.range L.length).filterMap (fun i => (L[i]?).bind fun o => if p o = true then some (pD o) else none) = (L.filter p).map pD := by
  induction L with
  | nil => rfl
  | cons x l ih =>
    rw [List.length_cons, List.range_succ_eq_map, List.filterMap_cons, List.filterMap_map, List.filter_cons]
    have e : List.filterMap ((fun i => ((x :: l)[i]?).bind fun o => if p o = true then some (pD o) else none) ∘ Nat.succ) (List.range l.length) = (l.filter p).map pD := by rw [← ih]; rfl
    rw [e]
    cases h : p x with
    | true => simp [h]
    | false => simp [h]
def spB32 (K : PySem.W.Frag) : Sp := fun vs H Q _ => ∃ (a : Addr) (ws : List Tch) (g h : Int), vs = [.ref a, .int g, .int h] ∧ WebAt H a ws ∧ ws.length ≤ 300 ∧ ∀ (r : Addr) (L : List Prs) (H' : Hp), H r = none → PrsAt H' r L → L.length ≤ 300 → (∀ z ∈ L, 0 ≤ z.1 ∧ z.1 < ws.length ∧ 0 ≤ z.2 ∧ z.2 < ws.length) → Same H H' → Q (.ref r) H'
theorem ok_B32 {f : Addr} {fd : FuncData} (F : Fun K "_law_back" "_law_back" s_Lback f fd) (F_Lwants : FnAt P w K mg base 2 "_law_wants" ["web", "hand", "other"] (spLwants K)) (Bt : Blt mg) : FnOk P w K mg base CX0 3 f fd ["web", "hand", "other"] (spB32 K) := by
  refine F.ok sc_Lback (fun vs H Q E h => ?_) (fun cdv A outer s H vs Q E hr h => ?_)
  · obtain ⟨a, ws, g, h, rfl, _⟩ := h
    rfl
  · obtain ⟨a, ws, g, h, rfl, W, wl, k⟩ := h
    have hu64 := hr.units
    have ll := lL_len ws g h ws.length wl
    refine ⟨_, (pss_cons (ps_setC (i := 3) rfl sc_Lback.nd rfl (Or.inl rfl) (N := ["i", "j"]) (own := ["i", "j"]) (caps := []) (CompScope.of (by kernel_rfl)) (pi_listK (K := K) rfl (pe_fn F_Lwants (hr.mono (by decide)) (by rfl) (pa_cons (pv 0) (pa_cons (pv 1) (pa_cons (pv 2) pa_nil))))) (fun _ _ _ _ => (pg_tupK (K := K) (n := 2) rfl rfl (pgs_cons (pg_name (i := 0) (show List.Nodup (["i", "j"] : List Str) by decide +kernel) rfl (Or.inl rfl)) (pgs_cons (pg_name (i := 1) (show List.Nodup (["i", "j"] : List Str) by decide +kernel) rfl (Or.inl rfl)) pgs_nil)))) (fun _ _ _ _ => pts_nil) (fun _ _ _ _ => (pe_tup (pa_cons (pe_op op_sub pe_int (pv 0)) (pa_cons (pv 1) pa_nil)))))
      (pss_cons (ps_setC (i := 3) rfl sc_Lback.nd rfl (Or.inl rfl) (N := ["i", "j"]) (own := ["i", "j"]) (caps := []) (CompScope.of (by kernel_rfl)) (pi_listK (K := K) rfl (pe_callB (call_sortTK (K := K) rfl) (by rfl) Bt.b_sorted bt_sorted (pa_cons (pv 3) pa_nil))) (fun _ _ _ _ => (pg_tupK (K := K) (n := 2) rfl rfl (pgs_cons (pg_name (i := 0) (show List.Nodup (["i", "j"] : List Str) by decide +kernel) rfl (Or.inl rfl)) (pgs_cons (pg_name (i := 1) (show List.Nodup (["i", "j"] : List Str) by decide +kernel) rfl (Or.inl rfl)) pgs_nil)))) (fun _ _ _ _ => pts_nil) (fun _ _ _ _ => (pe_tup (pa_cons (pe_op op_sub pe_int (pv 0)) (pa_cons (pv 1) pa_nil)))))
      (pss_cons (ps_set (i := 4) sc_Lback.nd rfl (Or.inl rfl) (pe_lst pa_nil))
      (pss_cons (ps_for PassesOwn.never rfl (pi_range1 (by rfl) Bt.b_range (pa_cons (pe_callB (call_len_seqK (K := K) rfl) (by rfl) Bt.b_len bt_len (pa_cons (pv 3) pa_nil)) pa_nil)) (pg_name (i := 5) sc_Lback.nd rfl (Or.inl rfl))
      (pss_one (ps_if (pt_cmpR (op_neDK (K := K) rfl hu64) (pv 3) (pe_lst pa_nil) (nomark _)) (pss_cons (ps_set (i := 6) sc_Lback.nd rfl (Or.inr rfl) (pe_ix (ix_listK (K := K) rfl) (pv 3) pe_int (fun _ _ => rfl)))
      (pss_cons (ps_expr (pe_appendK (K := K) rfl (pv 4) (pa_cons (pv 6) pa_nil)))
      (pss_one (ps_setC (i := 3) rfl sc_Lback.nd rfl (Or.inl rfl) (N := ["one", "want"]) (own := ["one"]) (caps := [6]) (CompScope.of (by kernel_rfl)) (pi_listK (K := K) rfl (pv 3)) (fun _ _ _ _ => (pg_name (i := 0) (show List.Nodup (["one", "want"] : List Str) by decide +kernel) rfl (Or.inl rfl))) (fun _ _ _ _ => (pts_one (pt_cmpR op_lt (pe_ix (ix_tupK (K := K) rfl) (pv 0) pe_int (fun _ _ => rfl)) (pe_ix (ix_tupK (K := K) rfl) (pv 1) pe_int (fun _ _ => rfl)) (nomark _)))) (fun _ _ _ _ => (pv 0)))))) pss_nil)))
      (pss_one (ps_ret (pv 4))))))), ?_⟩
    refine ⟨_, rfl, _, rfl, _, rfl, a, ws, g, h, rfl, W, wl, fun l0 H1 hl0 PL s1 => ?_⟩
    obtain ⟨lv, hlv, dlv⟩ := id PL
    refine ⟨l0, rfl, ⟨_, SqL.of hlv⟩, fun D1 hD1 => ?_⟩
    refine comp_neg PL (by rw [List.length_map]; omega) hD1 (fun x y H F kF => ⟨_, rfl, _, _, rfl, rfl, _, rfl, (by show 2 ≤ sizeLine; decide), fun q hq => kF q _ (same_new hq) upd_same⟩) (fun H2 s2 P2 => ?_)
    refine ⟨_, rfl, ?_⟩
    dsimp only [tNil]
    refine sort_prs P2 (fun l3 L3 H3 hl3 P3 p3 s3 => ?_)
    have L3l : L3.length ≤ 90000 := by rw [p3.length_eq, List.length_map, List.length_map]; omega
    obtain ⟨l3v, hl3v, _⟩ := id P3
    refine ⟨l3, rfl, ⟨_, SqL.of hl3v⟩, fun D4 hD4 => ?_⟩
    refine comp_neg P3 (by omega) hD4 (fun x y H F kF => ⟨_, rfl, _, _, rfl, rfl, _, rfl, (by show 2 ≤ sizeLine; decide), fun q hq => kF q _ (same_new hq) upd_same⟩) (fun H4 s4 P4 => ?_)
    have mem0 : ∀ z ∈ L3.map neg1, 0 ≤ z.1 ∧ z.1 < z.2 ∧ z.2 < ws.length := fun z hz => by
      obtain ⟨y, hy, rfl⟩ := List.mem_map.mp hz
      obtain ⟨x, hx, rfl⟩ := List.mem_map.mp (p3.mem_iff.mp hy)
      obtain ⟨o, ho, rfl⟩ := List.mem_map.mp hx
      have q1 := (mem_lL.mp ho).2.1
      have q2 := (mem_lL.mp ho).1
      show 0 ≤ 0 - (0 - (o.1 : Int)) ∧ 0 - (0 - (o.1 : Int)) < (o.2 : Int) ∧ (o.2 : Int) < ws.length
      omega
    have L4l : (L3.map neg1).length ≤ 90000 := by rw [List.length_map]; exact L3l
    generalize L3.map neg1 = L4 at P4 mem0 L4l
    have s14 := ((s1.trans s2).trans s3).trans s4
    refine ⟨(by show 0 ≤ sizeLine; decide), fun fo hfo => ?_⟩
    have s5 := same_new (o := HO.lst []) hfo
    have hfo0 : H fo = none := s14.free hfo
    obtain ⟨v4, hv4, d4⟩ := id P4
    have v4l : v4.length = L4.length := by rw [d4.length, List.length_map]
    refine ⟨_, rfl, D4, _, rfl, .inl (SqL.of (s5 _ _ hv4)), _, rfl, by omega, by omega, ?_⟩
    rw [show ((v4.length : Nat) : Int).toNat = L4.length by omega]
    refine for_range (lo := 0) (n := L4.length) (fun n σ H2 => ∃ (l2 : Addr) (L F : List Prs) (b : Nat) (x2 x3 : Option V), σ = [some (.ref a), some (.int g), some (.int h), some (.ref l2), some (.ref fo), x2, x3] ∧ Same H H2 ∧ PrsAt H2 fo F ∧ PrsAt H2 l2 L ∧ l2 ≠ fo ∧
        L.length ≤ 90000 ∧ F.length + b ≤ ws.length ∧ (∀ z ∈ L, 0 ≤ z.1 ∧ z.1 < z.2 ∧ z.2 < b) ∧ ∀ z ∈ F, 0 ≤ z.1 ∧ z.1 < ws.length ∧ 0 ≤ z.2 ∧ z.2 < ws.length)
      ⟨D4, L4, [], ws.length, none, none, rfl, s14.trans s5, ⟨[], upd_same, by simp [Dats]⟩, P4.same s5, ne_of_none hv4 hfo, L4l, by simp, mem0, by simp⟩ ?_ ?_
    · rintro n σ H2 hn ⟨l2, L, F, b, x2, x3, rfl, sm, PF, P2, nlf, Ll, fb, low, fin⟩
      obtain ⟨l2v, hl2, dl2⟩ := id P2
      refine ⟨_, rfl, (by show 0 ≤ sizeLine; decide), fun e he => ?_⟩
      have s3 := same_new (o := HO.lst []) he
      refine ⟨_, _, dat_list (s3 _ _ hl2) (Dats.keep s3.tups _ (imms_map _ imm_pD _) dl2), dat_list (ds := ([] : List Prs).map pD) upd_same (by simp [Dats]), shaped_prs _, shaped_prs [], _, rfl, ?_⟩
      rw [if_pos rfl, eqv_list pD eqv_pD]
      have PF3 := PF.same s3
      have P3 := P2.same s3
      have sm3 := sm.trans s3
      generalize upd H2 e (HO.lst []) = H3 at PF3 P3 sm3 ⊢
      cases L with
      | nil =>
        refine iteNS rfl ?_
        exact ⟨l2, [], F, b, _, _, rfl, sm3, PF3, P3, nlf, Ll, fb, low, fin⟩
      | cons x r =>
        rw [show (!decide (x :: r = [])) = true by simp]
        refine iteT ?_
        obtain ⟨q1, q2, q3⟩ := low x (.head _)
        obtain ⟨l3v, hl3, dl3⟩ := id P3
        obtain ⟨v0, e0⟩ : ∃ v, l3v[0]? = some v := by
          have : 0 < l3v.length := by rw [dl3.length]; simp
          exact ⟨l3v[0], by simp [this]⟩
        obtain ⟨y, tw, ey, rfl, htw⟩ := prs_get dl3 e0
        cases ey
        refine ⟨_, rfl, _, _, _, _, rfl, rfl, SqL.of hl3, atI_nat (j := 0) e0, ?_⟩
        obtain ⟨fv, hfv, dfv⟩ := id PF3
        have fvl : fv.length = F.length := by rw [dfv.length, List.length_map]
        refine ⟨_, rfl, .inl ⟨rfl, _, SqL.of hfv⟩, _, rfl, fo, fv, _, rfl, rfl, hfv, by rw [sizeLine_eq]; omega, ?_⟩
        have kX : Kp fo H3 (upd H3 fo (.lst (fv ++ [V.ref tw]))) := Kp.set
        have tX := kX.tups hfv
        have FX : PrsAt (upd H3 fo (.lst (fv ++ [V.ref tw]))) fo (F ++ [x]) := by
          refine ⟨_, upd_same, ?_⟩
          rw [List.map_append]
          exact Dats.append (Dats.keep tX _ (imms_map _ imm_pD _) dfv) (dats1 (dat_prs (x := x) (tX _ _ htw)))
        have smX : Same H (upd H3 fo (.lst (fv ++ [V.ref tw]))) := fun b o eb => kX _ _ (sm3 _ _ eb) (ne_of_none eb hfo0)
        have PX : PrsAt (upd H3 fo (.lst (fv ++ [V.ref tw]))) l2 (x :: r) := P3.kp hfv kX nlf
        have htwX := tX _ _ htw
        generalize upd H3 fo (.lst (fv ++ [V.ref tw])) = HX at FX smX PX htwX ⊢
        obtain ⟨uX, hlX, dlX⟩ := id PX
        have uXl : uX.length = (x :: r).length := by rw [dlX.length, List.length_map]
        refine ⟨_, rfl, l2, rfl, ⟨_, SqL.of hlX⟩, fun D2 hD2 => ?_⟩
        refine comp_datL (K := K) (xs := uX) (fun i => ((x :: r)[i]?).bind fun z => if decide (z.2 < x.1) = true then some (pD z) else none) (fun i d h => ?_) hD2 (SqL.of hlX) (by omega) (fun i v H8 G F' hi sY kG kF => ?_) (fun H8 vs8 sY e8 d8 => ?_)
        · cases e : (x :: r)[i]? with
          | none => rw [e] at h; cases h
          | some z =>
            rw [e] at h
            simp only [Option.bind_some] at h
            split at h
            · cases h; rfl
            · cases h
        · obtain ⟨z, t', eo', rfl, ht'⟩ := prs_get dlX hi
          rw [eo'] at kG kF
          simp only [Option.bind_some] at kG kF
          refine ⟨_, rfl, _, _, _, _, rfl, rfl, SqT.of (sY _ _ ht'), rfl, _, rfl, _, _, _, _, rfl, rfl, SqT.of (sY _ _ htwX), rfl, _, _, rfl, rfl, _, rfl, ?_⟩
          by_cases q : z.2 < x.1
          · rw [if_pos (decide_eq_true q)] at kF
            rw [decide_eq_true q]
            refine iteT ?_
            exact ⟨_, rfl, kF _ _ _ (Same.refl _) rfl (dat_prs (sY _ _ ht'))⟩
          · rw [if_neg (by rw [decide_eq_true_iff]; exact q)] at kG
            rw [decide_eq_false q]
            refine iteF ?_
            exact kG _ (Same.refl _) rfl
        · rw [uXl, fm_pf] at d8
          have fl := List.length_filter_le (fun z : Prs => decide (z.2 < x.1)) (x :: r)
          refine ⟨D2, _, F ++ [x], x.1.toNat, _, _, rfl, smX.trans sY, FX.same sY, ⟨vs8, e8, d8⟩, ?_, by omega, by rw [List.length_append, List.length_singleton]; omega, fun z hz => ?_, fun z hz => ?_⟩
          · obtain ⟨_, e1, _⟩ := FX
            exact (ne_of_none e1 hD2).symm
          · obtain ⟨z1, z2⟩ := List.mem_filter.mp hz
            have z2 := of_decide_eq_true z2
            obtain ⟨w1, w2, w3⟩ := low z z1
            exact ⟨w1, w2, by omega⟩
          · rcases List.mem_append.mp hz with q | q
            · exact fin z q
            · rw [List.mem_singleton.mp q]; exact ⟨by omega, by omega, by omega, by omega⟩
    · rintro σ H2 ⟨l2, L, F, b, x2, x3, rfl, sm, PF, P2, nlf, Ll, fb, low, fin⟩
      exact ⟨_, rfl, k fo F H2 hfo0 PF (by omega) fin sm⟩

theorem eqv_nD (x y : Nt) : PyData.eqv (nD x) (nD y) = decide (x = y) := by
  obtain ⟨a, b, c, d⟩ := x
  obtain ⟨a', b', c', d'⟩ := y
  simp only [nD, PyData.eqv, PyData.eqvAll, Bool.and_true]
  by_cases e1 : a = a'
  · subst e1
    by_cases e2 : b = b'
    · subst e2
      by_cases e3 : c = c'
      · subst e3
        by_cases e4 : d = d'
        · subst e4; simp
        · simp [e4]
      · simp [e3]
    · simp [e2]
  · simp [e1]
theorem shaped_nts (ns : List Nt) : SeqAt.shaped (.list (ns.map nD)) = true :=
  shaped_list nD 1 (by decide) (fun _ _ => rfl) (fun _ _ => by show (max 0 (max 0 (max 0 (max 0 0)))) + 1 ≤ 1; decide)
/-! ### copies, data of a record -/
theorem eqv_int (x y : Int) : PyData.eqv (.int x) (.int y) = decide (x = y) := by
  simp only [PyData.eqv]
  rw [Bool.eq_iff_iff]
  simp
theorem dat_ints {H : Hp} {a : Addr} {ns : List Int} (h : H a = some (.lst (ns.map V.int))) : Dat H (.ref a) (.list (ns.map PyData.int)) := dat_list h (Dats.ints ns)
theorem shaped_ints (ns : List Int) : SeqAt.shaped (.list (ns.map PyData.int)) = true := shaped_list PyData.int 0 (by decide) (fun _ _ => rfl) (fun _ _ => by show 0 ≤ 0; decide)
theorem orGoal {c A B : Prop} [Decidable c] (hA : A) (hB : ¬ c → A → B) : if c then A else B := by
  by_cases h : c
  · rw [if_pos h]; exact hA
  · rw [if_neg h]; exact hB h hA
def putN (x : Nt) (part v : Int) : Nt := if part = 0 then (v, x.2.1, x.2.2.1, x.2.2.2) else if part = 1 then (x.1, v, x.2.2.1, x.2.2.2) else if part = 2 then (x.1, x.2.1, v, x.2.2.2) else (x.1, x.2.1, x.2.2.1, v)
theorem put_at (x : Nt) {part v : Int} (p0 : 0 ≤ part) (p1 : part < 4) : (cutV (nV x) none (some part) ++ [V.int v]) ++ cutV (nV x) (some (part + 1)) none = nV (putN x part v) := by
  have : part = 0 ∨ part = 1 ∨ part = 2 ∨ part = 3 := by omega
  rcases this with rfl | rfl | rfl | rfl <;> rfl
theorem put_a (x : Nt) {part : Int} (p0 : 0 ≤ part) (p1 : part < 4) : ¬ (HT.sIx (nV x).length 0 none = 0 ∧ HT.sIx (nV x).length (nV x).length (some part) = (nV x).length) := by
  have : part = 0 ∨ part = 1 ∨ part = 2 ∨ part = 3 := by omega
  show ¬ (HT.sIx 4 0 none = 0 ∧ HT.sIx 4 4 (some part) = 4)
  rcases this with rfl | rfl | rfl | rfl <;> decide
theorem put_b (x : Nt) {part : Int} (p0 : 0 ≤ part) (p1 : part < 4) : ¬ (HT.sIx (nV x).length 0 (some (part + 1)) = 0 ∧ HT.sIx (nV x).length (nV x).length none = (nV x).length) := by
  have : part = 0 ∨ part = 1 ∨ part = 2 ∨ part = 3 := by omega
  show ¬ (HT.sIx 4 0 (some (part + 1)) = 0 ∧ HT.sIx 4 4 none = 4)
  rcases this with rfl | rfl | rfl | rfl <;> decide

/-! ### the law's own -/
section
variable {D r : Addr} {te : TE} {Q : VK} {rest : St} {H1 : Hp} {n : Nat}
theorem SpringOk.ne {H : Hp} {r p : Addr} (h : SpringOk H r) (hp : H p = none) : p ≠ r := by
  obtain ⟨f, t, c, e, _⟩ := h
  exact (ne_of_none e hp).symm
theorem SpringOk.at {H : Hp} {r : Addr} (h : SpringOk H r) : ∃ o, H r = some o := by
  obtain ⟨f, t, c, e, _⟩ := h
  exact ⟨_, e⟩
theorem SpringOk.tups {H H' : Hp} {r : Addr} (h : SpringOk H r) (k : Kp r H H') : ∀ a xs, H a = some (HO.tup xs) → H' a = some (HO.tup xs) := by
  obtain ⟨f, t, c, e, _⟩ := h
  exact k.tups e
theorem Kp.new {H H' : Hp} {r p : Addr} (k : Kp r H H') (hp : H' p = none) (hr : ∃ o, H' r = some o) : H p = none := by
  cases e : H p with
  | none => rfl
  | some o =>
    by_cases n : p = r
    · subst n
      obtain ⟨o', ho⟩ := hr
      rw [hp] at ho
      cases ho
    · rw [k _ _ e n] at hp
      cases hp
theorem comp_sprR (hD : H1 D = none) (hS : SpringOk H1 r) (hx : n ≤ 100000)
    (hs : ∀ i H (F : VK), i < n → Kp r H1 H → SpringOk H r → (∀ z H', Kp r H H' → SpringOk H' r → F (.int z) H') → te (some (.int (0 + i)) :: rest) H F)
    (hd : ∀ H (zs : List Int), zs.length = n → H D = some (.lst (zs.map V.int)) → Kp r H1 H → SpringOk H r → Q (.ref D) H) : CompW (Itr 0 n) (gName 0) tAll te Q D (none :: rest) H1 := by
  have nr := hS.ne hD
  have mv : ∀ {H : Hp} {o : HO}, Kp r H1 H → Kp r H1 (upd H D o) := fun k c u e m => by rw [upd_ne (ne_of_none e hD)]; exact k c u e m
  refine comp_range (lo := 0) (n := n) (fun i σ H => (∃ v, σ = v :: rest) ∧ ∃ zs : List Int, zs.length = i ∧ H D = some (.lst (zs.map V.int)) ∧ Kp r H1 H ∧ SpringOk H r) ⟨⟨none, rfl⟩, [], rfl, upd_same, .of_same (same_new hD), hS.keep (same_new hD)⟩ ?_ (fun σ H ⟨_, zs, hl, e, k, B⟩ => hd H zs hl e k B)
  rintro i σ H hi ⟨⟨v, rfl⟩, zs, hl, e, k1, B1⟩
  refine hs i H _ hi k1 B1 fun z H' k2 B2 => ?_
  refine ⟨_, k2 _ _ e nr, ?_, ⟨_, rfl⟩, zs ++ [z], by simp [hl], ?_, mv (k1.trans k2), B2.keep' Kp.set nr.symm⟩
  · rw [List.length_map, sizeLine_eq]; omega
  · rw [upd_same]; simp
end
/-- any note told -/
def AnyN (Q : VK) (H : Hp) (r : Addr) : Prop := ∀ (t : Addr) (x : Nt) (H' : Hp), H' t = some (.tup (nV x)) → SpringOk H' r → Kp r H H' → Q (.ref t) H'
def pkB (ws : List Tch) (only : Int) (j i : Nat) : Bool := match ws[i]?, ws[j]? with
  | some x, some y => !decide (x.1 = y.1) && (decide (only = 0) || mt x y)
  | _, _ => false
def pk (ws : List Tch) (only : Int) (j : Nat) : List Int := (List.range j).filterMap fun (i : Nat) => if pkB ws only j i then some (i : Int) else none
theorem pk_map (ws : List Tch) (only : Int) (j : Nat) : (List.range j).filterMap (fun (i : Nat) => if pkB ws only j i then some (V.int (0 + (i : Int))) else none) = (pk ws only j).map V.int := by
  unfold pk
  rw [List.map_filterMap]
  refine fm_congr _ trivial fun i _ => ?_
  split <;> simp
theorem pk_mem {ws : List Tch} {only : Int} {j : Nat} {h : Int} (m : h ∈ pk ws only j) : 0 ≤ h ∧ h < j := by
  unfold pk at m
  rw [List.mem_filterMap] at m
  obtain ⟨i, hi, e⟩ := m
  have hi' : i < j := by simpa using hi
  split at e
  · cases e; exact ⟨by omega, by omega⟩
  · cases e
theorem get_mem {l : List Int} {z : Int} (z0 : 0 ≤ z) (z1 : z < l.length) : ∃ h, atI (l.map V.int) z = some (.int h) ∧ h ∈ l := by
  obtain ⟨m, rfl⟩ := Int.eq_ofNat_of_zero_le z0
  have hm : m < l.length := by omega
  exact ⟨l[m], atI_nat (by rw [List.getElem?_map, List.getElem?_eq_getElem hm]; rfl), List.getElem_mem hm⟩
/-- calls[i] + calls[j] -/
theorem prs_nat {H : Hp} {c : Addr} {ps : List Prs} {h : Int} (C : PrsAt H c ps) (h0 : 0 ≤ h) (h1 : h < ps.length) : ∃ vs t x, H c = some (.lst vs) ∧ atI vs h = some (.ref t) ∧ H t = some (.tup [.int x.1, .int x.2]) ∧ ps[h.toNat]? = some (x : Prs) := by
  obtain ⟨m, rfl⟩ := Int.eq_ofNat_of_zero_le h0
  have hm : m < ps.length := by omega
  obtain ⟨vs, t, a, b, d⟩ := prs_at C (i := m) (x := ps[m]) (by simp [hm])
  exact ⟨vs, t, ps[m], a, atI_nat b, d, by simp [hm]⟩
def spPick (K : PySem.W.Frag) : Sp := fun vs H Q _ => ∃ (r a c : Addr) (ws : List Tch) (only : Int), vs = [.ref r, .ref a, .ref c, .int only] ∧ SpringOk H r ∧ WebAt H a ws ∧ a ≠ r ∧ PrsAt H c (nm ws) ∧ c ≠ r ∧ ws.length ≤ 300 ∧ AnyN Q H r
/-- the names of ok_pick as they stand -/
def pSt (a0 : Addr) (a1 : Addr) (a2 : Addr) (a3 : Int) (a4 : Int) (a5 : Int) (x6 : Option V) (x7 : Option V) (x8 : Option V) : St := [some (.ref a0), some (.ref a1), some (.ref a2), some (.int a3), some (.int a4), some (.int a5), x6, x7, x8]
theorem ok_pick {f : Addr} {fd : FuncData} (F : Fun K "_law_pick" "_law_pick" s_Lpick f fd) (F_Ldraw : FnAt P w K mg base 1 "_law_draw" ["spring", "many"] (spDraw K)) (F_Lmeets : FnAt P w K mg base 1 "_law_meets" ["one", "other"] (spMt K)) (Bt : Blt mg) : FnOk P w K mg base CX0 2 f fd ["spring", "web", "calls", "only"] (spPick K) := by
  refine F.ok sc_Lpick (fun vs H Q E h => ?_) (fun cdv A outer s H vs Q E hr h => ?_)
  · obtain ⟨r, a, c, ws, only, rfl, _⟩ := h
    rfl
  · obtain ⟨r, a, c, ws, only, rfl, S0, W, nar, C, ncr, wl, k⟩ := h
    have hu64 := hr.units
    refine ⟨_, (pss_cons (ps_set (i := 4) sc_Lpick.nd rfl (Or.inl rfl) (pe_fn F_Ldraw (hr.mono (by decide)) (by rfl) (pa_cons (pv 0) (pa_cons (pe_callB (call_max2 rfl) (by rfl) Bt.b_max bt_max (pa_cons pe_int (pa_cons (pe_callB (call_len_seqK (K := K) rfl) (by rfl) Bt.b_len bt_len (pa_cons (pv 1) pa_nil)) pa_nil))) pa_nil))))
      (pss_cons (ps_set (i := 5) sc_Lpick.nd rfl (Or.inl rfl) (pe_fn F_Ldraw (hr.mono (by decide)) (by rfl) (pa_cons (pv 0) (pa_cons (pe_op op_pow pe_int pe_int) pa_nil))))
      (pss_cons (ps_for PassesOwn.never rfl (pi_range1 (by rfl) Bt.b_range (pa_cons (pe_callB (call_len_seqK (K := K) rfl) (by rfl) Bt.b_len bt_len (pa_cons (pv 1) pa_nil)) pa_nil)) (pg_name (i := 6) sc_Lpick.nd rfl (Or.inl rfl))
      (pss_cons (ps_set (i := 7) sc_Lpick.nd rfl (Or.inr rfl) (pe_op op_mod (pe_op op_add (pv 4) (pv 6)) (pe_callB (call_len_seqK (K := K) rfl) (by rfl) Bt.b_len bt_len (pa_cons (pv 1) pa_nil))))
      (pss_cons (ps_setC (i := 8) rfl sc_Lpick.nd rfl (Or.inl rfl) (N := ["i", "only", "web", "j"]) (own := ["i"]) (caps := [3, 1, 7]) (CompScope.of (by kernel_rfl)) (pi_range1 (by rfl) Bt.b_range (pa_cons (pv 7) pa_nil)) (fun _ _ _ _ => (pg_name (i := 0) (show List.Nodup (["i", "only", "web", "j"] : List Str) by decide +kernel) rfl (Or.inl rfl))) (fun _ _ _ _ => (pts_one (PW.pt (pw_and (pt_cmpR op_ne (pe_ix (ix_tupK (K := K) rfl) (pe_ix (ix_listK (K := K) rfl) (pv 2) (pv 0) (fun _ _ => rfl)) pe_int (fun _ _ => rfl)) (pe_ix (ix_tupK (K := K) rfl) (pe_ix (ix_listK (K := K) rfl) (pv 2) (pv 3) (fun _ _ => rfl)) pe_int (fun _ _ => rfl)) (nomark _)) (pw_and1 (PW.pt (pw_or (pt_cmpR op_eq (pv 1) pe_int (nomark _)) (pw_or1 (pt_val (pe_fn F_Lmeets (hr.mono (by decide)) (by rfl) (pa_cons (pe_ix (ix_listK (K := K) rfl) (pv 2) (pv 0) (fun _ _ => rfl)) (pa_cons (pe_ix (ix_listK (K := K) rfl) (pv 2) (pv 3) (fun _ _ => rfl)) pa_nil)))))))))))) (fun _ _ _ _ => (pv 0)))
      (pss_one (ps_if (pt_cmpR (op_neDK (K := K) rfl hu64) (pv 8) (pe_lst pa_nil) (nomark _)) (pss_one (ps_ret (pe_op (op_catTK (K := K) rfl) (pe_ix (ix_listK (K := K) rfl) (pv 2) (pe_ix (ix_listK (K := K) rfl) (pv 8) (pe_op op_mod (pv 5) (pe_callB (call_len_seqK (K := K) rfl) (by rfl) Bt.b_len bt_len (pa_cons (pv 8) pa_nil))) (fun _ _ => rfl)) (fun _ _ => rfl)) (pe_ix (ix_listK (K := K) rfl) (pv 2) (pv 7) (fun _ _ => rfl))))) pss_nil)))))
      (pss_one (ps_ret (pe_tup (pa_cons pe_int (pa_cons pe_int (pa_cons pe_int (pa_cons pe_int pa_nil)))))))))), ?_⟩
    obtain ⟨vs0, ha0, dv0⟩ := id W
    have vl0 : vs0.length = ws.length := by rw [dv0.length, List.length_map]
    refine seq_one (fun R g => ?_)
    refine ⟨_, rfl, _, rfl, a, _, rfl, .inl (SqL.of ha0), _, _, rfl, r, _, rfl, S0, ?_, ?_, fun at_ H1 a0 a1 S1 k1 => ?_⟩
    · split <;> omega
    · split <;> omega
    refine g _ _ ?_
    refine seq_one (fun R g => ?_)
    refine ⟨_, rfl, _, _, rfl, rfl, (by show CPow 10 6; exact ⟨by decide, by decide, by decide⟩), r, _, rfl, S1, by decide, by decide, fun wh H2 w0 w1 S2 k2 => ?_⟩
    refine g _ _ ?_
    have k02 := k1.trans k2
    have W2 := (W.spr S0 k1 nar).spr S1 k2 nar
    have C2 := (C.spr S0 k1 ncr).spr S1 k2 ncr
    obtain ⟨vs, ha, dv⟩ := id W2
    have vl : vs.length = ws.length := by rw [dv.length, List.length_map]
    refine ⟨_, rfl, a, _, rfl, .inl (SqL.of ha), _, rfl, by omega, by omega, ?_⟩
    rw [show ((vs.length : Nat) : Int).toNat = ws.length by omega]
    refine for_range (lo := 0) (n := ws.length) (fun i σ H3 => ∃ (x1 x2 x3 : Option V), σ = (pSt r a c only at_ wh x1 x2 x3) ∧ Same H2 H3)
      ⟨none, none, none, rfl, Same.refl _⟩ ?_ ?_
    · rintro i σ H3 hi ⟨x1, x2, x3, rfl, s3⟩
      have ha3 := s3 _ _ ha
      refine ⟨_, rfl, _, rfl, _, _, rfl, rfl, _, rfl, a, _, rfl, .inl (SqL.of ha3), _, _, rfl, rfl, by omega, ?_⟩
      have j0 : 0 ≤ (at_ + (0 + (i : Int))) % (vs.length : Int) := Int.emod_nonneg _ (by omega)
      have j1 : (at_ + (0 + (i : Int))) % (vs.length : Int) < vs.length := Int.emod_lt_of_pos _ (by omega)
      obtain ⟨jn, ejn⟩ := Int.eq_ofNat_of_zero_le j0
      have ej : (fun (i j : Int) => V.int (i % j)) (at_ + (0 + (i : Int))) (vs.length : Int) = V.int (jn : Int) := by show V.int _ = _; rw [ejn]
      rw [ej]
      have jl : jn < ws.length := by rw [ejn] at j1; omega
      obtain ⟨y, ey⟩ : ∃ y, ws[jn]? = some y := ⟨ws[jn], by simp [jl]⟩
      have W3 := W2.same s3
      have C3 := C2.same s3
      refine ⟨_, rfl, (jn : Int), rfl, by omega, by omega, fun D hD => ?_⟩
      rw [Int.toNat_natCast]
      refine comp_valR (fun (i : Nat) => if pkB ws only jn i then some (V.int (0 + (i : Int))) else none) hD (by omega) (fun m H4 G F hm s4 kG kF => ?_) (fun H4 s4 e4 => ?_)
      · obtain ⟨x, ex⟩ : ∃ x, ws[m]? = some x := ⟨ws[m]'(by omega), by simp [show m < ws.length by omega]⟩
        obtain ⟨vx, q, hwx, eqx, hqx⟩ := web_get (W3.same s4) ex
        obtain ⟨vy, q', hwy, eqy, hqy⟩ := web_get (W3.same s4) ey
        refine ⟨_, rfl, _, rfl, _, _, _, _, rfl, rfl, SqL.of hwx, atI0 eqx, _, _, _, _, rfl, rfl, SqT.of hqx, rfl, _, rfl, _, rfl, _, _, _, _, rfl, rfl, SqL.of hwy, atI_nat eqy, _, _, _, _, rfl, rfl, SqT.of hqy, rfl, rfl, _, rfl, ?_⟩
        by_cases e1 : x.1 = y.1
        · refine iteNS (by rw [e1]) ?_
          exact kG H4 (Same.refl _) (by simp [pkB, ex, ey, e1])
        · refine ite2 (fun _ => ?_) (fun z => absurd (by simp [e1]) z)
          refine ⟨_, rfl, rfl, _, rfl, ?_⟩
          by_cases e2 : only = 0
          · refine ite2 (fun _ => ?_) (fun z => absurd (decide_eq_true (by rw [e2])) z)
            exact ⟨_, rfl, kF _ H4 (Same.refl _) (by simp [pkB, ex, ey, e1, e2])⟩
          · refine ite2 (fun z => absurd (of_decide_eq_true z) (fun w => e2 (by injection w))) (fun _ => ?_)
            refine ⟨_, rfl, _, rfl, _, _, _, _, rfl, rfl, SqL.of hwx, atI0 eqx, _, rfl, _, rfl, _, _, _, _, rfl, rfl, SqL.of hwy, atI_nat eqy, q, q', x, y, rfl, hqx, hqy, _, rfl, ?_⟩
            cases e3 : mt x y with
            | true => exact iteT ⟨_, rfl, kF _ H4 (Same.refl _) (by simp [pkB, ex, ey, e1, e3])⟩
            | false => exact iteF (kG H4 (Same.refl _) (by simp [pkB, ex, ey, e1, e2, e3]))
      rw [pk_map] at e4
      have s34 := s3.trans s4
      refine ⟨_, rfl, (by show 0 ≤ sizeLine; decide), fun q hq => ?_⟩
      have s5 := same_new (o := HO.lst []) hq
      refine ⟨_, _, dat_ints (s5 _ _ e4), dat_ints (ns := []) upd_same, shaped_ints _, shaped_ints _, _, rfl, ?_⟩
      rw [if_pos rfl, eqv_list PyData.int eqv_int]
      have s35 := s34.trans s5
      refine ite2 (fun w => ?_) (fun _ => ⟨_, _, _, rfl, s35⟩)
      have w : pk ws only jn ≠ [] := by simpa using w
      have pl : 0 < (pk ws only jn).length := List.length_pos_iff.mpr w
      have e5 := s5 _ _ e4
      have z0 : 0 ≤ wh % ((pk ws only jn).length : Int) := Int.emod_nonneg _ (by omega)
      have z1 : wh % ((pk ws only jn).length : Int) < (pk ws only jn).length := Int.emod_lt_of_pos _ (by omega)
      obtain ⟨h, ath, hm⟩ := get_mem z0 z1
      obtain ⟨h0, h1⟩ := pk_mem hm
      have C5 := C2.same s35
      obtain ⟨vc, t1, x, hc5, at1, ht1, _⟩ := prs_nat C5 h0 (by rw [nm_length]; omega)
      obtain ⟨vc', t2, x', hc5', at2, ht2, _⟩ := prs_nat C5 (h := (jn : Int)) (by omega) (by rw [nm_length]; omega)
      refine ⟨_, rfl, _, rfl, _, rfl, _, rfl, D, _, rfl, .inl (SqL.of e5), _, _, rfl, rfl, by rw [List.length_map]; omega, _, _, _, _, rfl, rfl, SqL.of e5, by rw [List.length_map]; exact ath, _, _, _, _, rfl, rfl, SqL.of hc5, at1, _, rfl, _, rfl, _, _, _, _, rfl, rfl, SqL.of hc5', at2, _, _, _, _, rfl, rfl, SqT.of ht1, SqT.of ht2, by simp, (by show 4 ≤ sizeLine; decide), fun z => by simp at z, fun _ p hp => ?_⟩
      have s6 := same_new (o := HO.tup ([V.int x.1, V.int x.2] ++ [V.int x'.1, V.int x'.2])) hp
      exact k p (x.1, x.2, x'.1, x'.2) _ upd_same (S2.keep (s35.trans s6)) (k02.trans (.of_same (s35.trans s6)))
    · rintro σ H3 ⟨x1, x2, x3, rfl, s3⟩
      refine ⟨(by show 4 ≤ sizeLine; decide), fun t ht => ?_⟩
      have s4 := same_new (o := HO.tup [V.int 0, V.int 0, V.int 1, V.int 0]) ht
      exact k t (0, 0, 1, 0) _ upd_same (S2.keep (s3.trans s4)) (k02.trans (.of_same (s3.trans s4)))
def spStrange (K : PySem.W.Frag) : Sp := fun vs H Q _ => ∃ (r t : Addr) (x : Nt), vs = [.ref r, .ref t] ∧ SpringOk H r ∧ H t = some (.tup (nV x)) ∧ AnyN Q H r
theorem ok_strange {f : Addr} {fd : FuncData} (F : Fun K "_law_strange" "_law_strange" s_Lstrange f fd) (F_Ldraw : FnAt P w K mg base 1 "_law_draw" ["spring", "many"] (spDraw K)) : FnOk P w K mg base CX0 2 f fd ["spring", "note"] (spStrange K) := by
  refine F.ok sc_Lstrange (fun vs H Q E h => ?_) (fun cdv A outer s H vs Q E hr h => ?_)
  · obtain ⟨r, t, x, rfl, _⟩ := h
    rfl
  · obtain ⟨r, t, x, rfl, S0, ht, k⟩ := h
    refine ⟨_, (pss_cons (ps_set (i := 2) sc_Lstrange.nd rfl (Or.inl rfl) (pe_fn F_Ldraw (hr.mono (by decide)) (by rfl) (pa_cons (pv 0) (pa_cons pe_int pa_nil))))
      (pss_cons (ps_set (i := 3) sc_Lstrange.nd rfl (Or.inl rfl) (pe_fn F_Ldraw (hr.mono (by decide)) (by rfl) (pa_cons (pv 0) (pa_cons pe_int pa_nil))))
      (pss_cons (ps_if (pt_cmpR op_gt (pv 3) pe_int (nomark _)) (pss_one (ps_ret (pe_op (op_catTK (K := K) rfl) (pe_slice (sl_tupK (K := K) rfl) (pv 1) (po_some pe_int) po_none) (pe_slice (sl_tupK (K := K) rfl) (pv 1) po_none (po_some pe_int))))) pss_nil)
      (pss_cons (ps_set (i := 4) sc_Lstrange.nd rfl (Or.inl rfl) (pe_ix (ix_listK (K := K) rfl) (pe_lst (pa_cons (pe_op op_add (pe_ix (ix_tupK (K := K) rfl) (pv 1) (pv 2) (fun _ _ => rfl)) pe_int) (pa_cons (pe_op op_sub (pe_ix (ix_tupK (K := K) rfl) (pv 1) (pv 2) (fun _ _ => rfl)) pe_int) (pa_cons (pe_op op_sub (pe_un un_neg pe_int) (pe_ix (ix_tupK (K := K) rfl) (pv 1) (pv 2) (fun _ _ => rfl))) (pa_cons (pe_op op_pow pe_int pe_int) (pa_cons (pe_op op_sub pe_int (pe_op op_pow pe_int pe_int)) (pa_cons (pe_op op_add (pe_ix (ix_tupK (K := K) rfl) (pv 1) (pv 2) (fun _ _ => rfl)) pe_int) (pa_cons (pe_ix (ix_tupK (K := K) rfl) (pv 1) (pe_op op_mod (pe_op op_add (pv 2) pe_int) pe_int) (fun _ _ => rfl)) pa_nil)))))))) (pv 3) (fun _ _ => rfl)))
      (pss_one (ps_ret (pe_op op_catTU (pe_op op_catTU (pe_slice (sl_tupK (K := K) rfl) (pv 1) po_none (po_some (pv 2))) (pe_tup (pa_cons (pv 4) pa_nil))) (pe_slice (sl_tupK (K := K) rfl) (pv 1) (po_some (pe_op op_add (pv 2) pe_int)) po_none)))))))), ?_⟩
    refine ⟨_, rfl, r, 4, rfl, S0, by decide, by decide, fun at_ H1 a0 a1 S1 k1 => ?_⟩
    refine ⟨_, rfl, r, 8, rfl, S1, by decide, by decide, fun how H2 h0 h1 S2 k2 => ?_⟩
    have k02 := k1.trans k2
    have ht2 := S1.tups k2 _ _ (S0.tups k1 _ _ ht)
    refine ⟨_, rfl, _, _, rfl, rfl, _, rfl, ?_⟩
    refine ite2 (fun w => ?_) (fun w => ?_)
    · refine ⟨_, rfl, _, rfl, _, _, rfl, SqT.of ht2, part4b _ rfl, fun q3 hq3 => ?_⟩
      rw [show cutV (nV x) (some 2) none = [.int x.2.2.1, .int x.2.2.2] from cut4b ..]
      have sp3 := same_new (o := HO.tup [V.int x.2.2.1, V.int x.2.2.2]) hq3
      refine ⟨_, rfl, _, rfl, _, _, rfl, SqT.of (sp3 _ _ ht2), part4a _ rfl, fun q4 hq4 => ?_⟩
      rw [show cutV (nV x) none (some 2) = [.int x.1, .int x.2.1] from cut4a ..]
      have sp4 := same_new (o := HO.tup [V.int x.1, V.int x.2.1]) hq4
      refine ⟨_, _, _, _, rfl, rfl, SqT.of (sp4 _ _ upd_same), SqT.of upd_same, by simp, (by show 4 ≤ sizeLine; decide), fun z => by simp at z, fun _ q5 hq5 => ?_⟩
      have sp5 := same_new (o := HO.tup ([V.int x.2.2.1, V.int x.2.2.2] ++ [V.int x.1, V.int x.2.1])) hq5
      have s35 := (sp3.trans sp4).trans sp5
      exact k q5 (x.2.2.1, x.2.2.2, x.1, x.2.1) _ upd_same (S2.keep s35) (k02.trans (.of_same s35))
    have w : ¬ how > 6 := fun z => w (decide_eq_true z)
    obtain ⟨v, ev⟩ : ∃ v : Int, atI (nV x) at_ = some (.int v) := by
      have : at_ = 0 ∨ at_ = 1 ∨ at_ = 2 ∨ at_ = 3 := by omega
      rcases this with rfl | rfl | rfl | rfl <;> exact ⟨_, rfl⟩
    obtain ⟨v2, ev2⟩ : ∃ v : Int, atI (nV x) ((at_ + 2) % 4) = some (.int v) := by
      have : at_ = 0 ∨ at_ = 1 ∨ at_ = 2 ∨ at_ = 3 := by omega
      rcases this with rfl | rfl | rfl | rfl <;> exact ⟨_, rfl⟩
    have cp : CPow 10 29 := ⟨by decide, by decide, by decide⟩
    refine ⟨_, rfl, _, rfl, _, _, _, _, rfl, rfl, SqT.of ht2, ev, _, _, rfl, rfl, ?_⟩
    refine ⟨_, rfl, _, rfl, _, _, _, _, rfl, rfl, SqT.of ht2, ev, _, _, rfl, rfl, ?_⟩
    refine ⟨_, rfl, _, rfl, _, rfl, _, _, _, _, rfl, rfl, SqT.of ht2, ev, _, _, rfl, rfl, ?_⟩
    refine ⟨_, _, rfl, rfl, cp, ?_⟩
    refine ⟨_, _, rfl, rfl, cp, _, _, rfl, rfl, ?_⟩
    refine ⟨_, rfl, _, rfl, _, _, _, _, rfl, rfl, SqT.of ht2, ev, _, _, rfl, rfl, ?_⟩
    refine ⟨_, rfl, _, rfl, _, _, rfl, rfl, _, _, rfl, rfl, (by show (0 : Int) < 4; decide), _, _, _, _, rfl, rfl, SqT.of ht2, ev2, ?_⟩
    refine ⟨(by show 7 ≤ sizeLine; decide), fun q hq => ?_⟩
    have s3 := same_new (o := HO.lst (([v + 1, v - 1, -1 - v, 10 ^ (29 : Int).toNat, 0 - 10 ^ (29 : Int).toNat, v + 8, v2] : List Int).map V.int)) hq
    have en := atI_gI (cs := [v + 1, v - 1, -1 - v, 10 ^ (29 : Int).toNat, 0 - 10 ^ (29 : Int).toNat, v + 8, v2]) (h := how) h0 (by show how < 7; omega)
    refine ⟨_, rfl, _, _, _, _, rfl, rfl, SqL.of upd_same, en, ?_⟩
    generalize gI [v + 1, v - 1, -1 - v, 10 ^ (29 : Int).toNat, 0 - 10 ^ (29 : Int).toNat, v + 8, v2] how = nb
    have ht3 := s3 _ _ ht2
    refine ⟨_, rfl, _, rfl, _, rfl, _, _, rfl, SqT.of ht3, put_a x a0 a1, fun q1 hq1 => ?_⟩
    have v1 := same_new (o := HO.tup (cutV (nV x) none (some at_))) hq1
    refine ⟨_, rfl, (by show 1 ≤ sizeLine; decide), fun q2 hq2 => ?_⟩
    have v2' := same_new (o := HO.tup [V.int nb]) hq2
    have l1' := cutV_length (nV x) none (some at_)
    have l2' := cutV_length (nV x) (some (at_ + 1)) none
    have l4 : (nV x).length = 4 := rfl
    refine ⟨_, _, _, _, rfl, rfl, v2' _ _ upd_same, upd_same, by rw [sizeLine_eq]; simp only [List.length_singleton]; omega, fun q3 H5 e5 v3 => ?_⟩
    have v13 := (v1.trans v2').trans v3
    refine ⟨_, rfl, _, rfl, _, _, rfl, rfl, _, rfl, _, _, rfl, SqT.of (v13 _ _ ht3), put_b x a0 a1, fun q4 hq4 => ?_⟩
    have v4 := same_new (o := HO.tup (cutV (nV x) (some (at_ + 1)) none)) hq4
    refine ⟨_, _, _, _, rfl, rfl, v4 _ _ e5, upd_same, by rw [sizeLine_eq]; simp only [List.length_append, List.length_singleton]; omega, fun q5 H6 e6 v5 => ?_⟩
    rw [put_at x a0 a1] at e6
    have v15 := (v13.trans v4).trans v5
    exact k q5 (putN x at_ nb) H6 e6 (S2.keep (s3.trans v15)) (k02.trans (.of_same (s3.trans v15)))
def spFree (K : PySem.W.Frag) : Sp := fun vs H Q _ => ∃ (r c : Addr) (ps : List Prs), vs = [.ref r, .ref c] ∧ SpringOk H r ∧ PrsAt H c ps ∧ c ≠ r ∧ ps.length ≤ 300 ∧ AnyN Q H r
theorem ok_free {f : Addr} {fd : FuncData} (F : Fun K "_law_free" "_law_free" s_Lfree f fd) (F_Ldraw : FnAt P w K mg base 1 "_law_draw" ["spring", "many"] (spDraw K)) (Bt : Blt mg) : FnOk P w K mg base CX0 2 f fd ["spring", "calls"] (spFree K) := by
  refine F.ok sc_Lfree (fun vs H Q E h => ?_) (fun cdv A outer s H vs Q E hr h => ?_)
  · obtain ⟨r, c, ps, rfl, _⟩ := h
    rfl
  · obtain ⟨r, c, ps, rfl, S0, C, ncr, pl, k⟩ := h
    refine ⟨_, (pss_cons (ps_setC (i := 2) rfl sc_Lfree.nd rfl (Or.inl rfl) (N := ["turn", "spring"]) (own := ["turn"]) (caps := [0]) (CompScope.of (by kernel_rfl)) (pi_range1 (by rfl) Bt.b_range (pa_cons pe_int pa_nil)) (fun _ _ _ _ => (pg_name (i := 0) (show List.Nodup (["turn", "spring"] : List Str) by decide +kernel) rfl (Or.inl rfl))) (fun _ _ _ _ => pts_nil) (fun _ _ _ _ => (pe_op op_sub (pe_fn F_Ldraw (hr.mono (by decide)) (by rfl) (pa_cons (pv 1) (pa_cons pe_int pa_nil))) pe_int)))
      (pss_cons (ps_setC (i := 3) rfl sc_Lfree.nd rfl (Or.inl rfl) (N := ["turn", "spring", "calls"]) (own := ["turn"]) (caps := [0, 1]) (CompScope.of (by kernel_rfl)) (pi_range1 (by rfl) Bt.b_range (pa_cons pe_int pa_nil)) (fun _ _ _ _ => (pg_name (i := 0) (show List.Nodup (["turn", "spring", "calls"] : List Str) by decide +kernel) rfl (Or.inl rfl))) (fun _ _ _ _ => pts_nil) (fun _ _ _ _ => (pe_op op_sub (pe_fn F_Ldraw (hr.mono (by decide)) (by rfl) (pa_cons (pv 1) (pa_cons (pe_op op_add (pe_callB (call_len_seqK (K := K) rfl) (by rfl) Bt.b_len bt_len (pa_cons (pv 2) pa_nil)) pe_int) pa_nil))) pe_int)))
      (pss_one (ps_ret (pe_tup (pa_cons (pe_ix (ix_listK (K := K) rfl) (pv 2) pe_int (fun _ _ => rfl)) (pa_cons (pe_ix (ix_listK (K := K) rfl) (pv 3) pe_int (fun _ _ => rfl)) (pa_cons (pe_ix (ix_listK (K := K) rfl) (pv 2) pe_int (fun _ _ => rfl)) (pa_cons (pe_ix (ix_listK (K := K) rfl) (pv 3) pe_int (fun _ _ => rfl)) pa_nil))))))))), ?_⟩
    refine ⟨2, rfl, by decide, by decide, fun D hD => ?_⟩
    refine comp_sprR hD S0 (by decide) (fun i H1 F hi k1 S1 kF => ?_) (fun H1 zs zl e1 k1 S1 => ?_)
    · exact ⟨_, rfl, r, 10, rfl, S1, by decide, by decide, fun z H2 z0 z1 S2 k2 => ⟨_, _, rfl, rfl, kF _ H2 k2 S2⟩⟩
    have nDr := S0.ne hD
    refine ⟨2, rfl, by decide, by decide, fun D2 hD2 => ?_⟩
    refine comp_sprR hD2 S1 (by decide) (fun i H2 F hi k2 S2 kF => ?_) (fun H2 ys yl e2 k2 S2 => ?_)
    · have C2 := (C.spr S0 k1 ncr).spr S1 k2 ncr
      obtain ⟨vs, hc2, dv2⟩ := id C2
      have vl : vs.length = ps.length := by rw [dv2.length, List.length_map]
      exact ⟨_, rfl, _, rfl, c, _, rfl, .inl (SqL.of hc2), _, _, rfl, rfl, r, _, rfl, S2, by omega, by omega, fun z H3 z0 z1 S3 k3 => ⟨_, _, rfl, rfl, kF _ H3 k3 S3⟩⟩
    have e12 := k2 _ _ e1 nDr
    have z2 : zs.length = 2 := zl
    have y2 : ys.length = 2 := yl
    refine ⟨_, rfl, _, _, _, _, rfl, rfl, SqL.of e12, atI_gI (by decide) (by omega), _, rfl, _, _, _, _, rfl, rfl, SqL.of e2, atI_gI (by decide) (by omega), _, rfl, _, _, _, _, rfl, rfl, SqL.of e12, atI_gI (by decide) (by omega), _, rfl, _, _, _, _, rfl, rfl, SqL.of e2, atI_gI (by decide) (by omega), (by show 4 ≤ sizeLine; decide), fun p hp => ?_⟩
    have s3 := same_new (o := HO.tup (nV (gI zs 0, gI ys 0, gI zs 1, gI ys 1))) hp
    exact k p (gI zs 0, gI ys 0, gI zs 1, gI ys 1) _ upd_same (S2.keep s3) ((k1.trans k2).trans (.of_same s3))

/-! ### lists of notes, whatever they are -/
def Nts (H : Hp) (vs : List V) : Prop := ∀ v ∈ vs, ∃ t x, v = V.ref t ∧ H t = some (.tup (nV x))
def NL (H : Hp) (a : Addr) (n : Nat) : Prop := ∃ vs, H a = some (.lst vs) ∧ vs.length ≤ n ∧ Nts H vs
theorem Nts.tups {H H' : Hp} {vs : List V} (h : Nts H vs) (k : ∀ a xs, H a = some (HO.tup xs) → H' a = some (HO.tup xs)) : Nts H' vs := fun v hv => by
  obtain ⟨t, x, e, ht⟩ := h v hv
  exact ⟨t, x, e, k _ _ ht⟩
theorem Nts.same {H H' : Hp} {vs : List V} (h : Nts H vs) (k : Same H H') : Nts H' vs := h.tups k.tups
theorem Nts.sub {H : Hp} {vs us : List V} (h : Nts H vs) (k : ∀ v ∈ us, v ∈ vs) : Nts H us := fun v hv => h v (k v hv)
theorem Nts.app {H : Hp} {vs us : List V} (h : Nts H vs) (k : Nts H us) : Nts H (vs ++ us) := fun v hv => by
  rcases List.mem_append.mp hv with q | q
  · exact h v q
  · exact k v q
theorem Nts.one {H : Hp} {t : Addr} {x : Nt} (h : H t = some (.tup (nV x))) : Nts H [.ref t] := fun v hv => ⟨t, x, List.mem_singleton.mp hv, h⟩
theorem Nts.get {H : Hp} {vs : List V} {i : Nat} {v : V} (h : Nts H vs) (e : vs[i]? = some v) : ∃ t x, v = V.ref t ∧ H t = some (.tup (nV x)) := h v (List.mem_of_getElem? e)
theorem Nts.of_dats {H : Hp} {vs : List V} {ns : List Nt} (d : Dats H vs (ns.map nD)) : Nts H vs := fun v hv => by
  obtain ⟨t, x, e, _, ht⟩ := nts_mem d hv
  exact ⟨t, x, e, ht⟩
theorem NL.same {H H' : Hp} {a : Addr} {n : Nat} (h : NL H a n) (s : Same H H') : NL H' a n := by
  obtain ⟨vs, e, l, q⟩ := h
  exact ⟨vs, s _ _ e, l, q.same s⟩
theorem NL.spr {H H' : Hp} {a r : Addr} {n : Nat} (h : NL H a n) (S : SpringOk H r) (k : Kp r H H') (ne : a ≠ r) : NL H' a n := by
  obtain ⟨vs, e, l, q⟩ := h
  exact ⟨vs, k _ _ e ne, l, q.tups (S.tups k)⟩
theorem NL.mono {H : Hp} {a : Addr} {m n : Nat} (h : NL H a m) (l : m ≤ n) : NL H a n := by
  obtain ⟨vs, e, q, z⟩ := h
  exact ⟨vs, e, Nat.le_trans q l, z⟩
theorem NL.nts {H : Hp} {a : Addr} {n : Nat} (h : NL H a n) : ∃ ns, NtsAt H a ns ∧ ns.length ≤ n := by
  obtain ⟨vs, e, q, z⟩ := h
  exact ⟨_, ⟨vs, e, nts_of z⟩, by rw [List.length_map]; exact q⟩
theorem dat_nt2 {H : Hp} {t : Addr} {x y : Prs} (h : H t = some (.tup ([V.int x.1, V.int x.2] ++ [V.int y.1, V.int y.2]))) : H t = some (.tup (nV (x.1, x.2, y.1, y.2))) := h
def sp32A (K : PySem.W.Frag) : Sp := fun vs H Q _ => ∃ (a c : Addr) (ws : List Tch) (b : Int), vs = [.ref a, .ref c, .int b] ∧ WebAt H a ws ∧ PrsAt H c (nm ws) ∧ ws.length ≤ 300 ∧ ∀ (r : Addr) (H' : Hp), H r = none → NL H' r 20000 → Same H H' → Q (.ref r) H'
theorem ok_32A {f : Addr} {fd : FuncData} (F : Fun K "_law_all" "_law_all" s_Lall f fd) (F_Lback : FnAt P w K mg base 3 "_law_back" ["web", "hand", "other"] (spB32 K)) (F_Lfront : FnAt P w K mg base 3 "_law_front" ["web", "hand", "other"] (spF32 K)) (Bt : Blt mg) : FnOk P w K mg base CX0 4 f fd ["web", "calls", "behind"] (sp32A K) := by
  refine F.ok sc_Lall (fun vs H Q E h => ?_) (fun cdv A outer s H vs Q E hr h => ?_)
  · obtain ⟨a, c, ws, b, rfl, _⟩ := h
    rfl
  · obtain ⟨a, c, ws, b, rfl, W, C, wl, k⟩ := h
    have hu64 := hr.units
    refine ⟨_, (pss_cons (ps_set (i := 3) sc_Lall.nd rfl (Or.inl rfl) (pe_lst pa_nil))
      (pss_cons (ps_for PassesOwn.never rfl (pi_range1 (by rfl) Bt.b_range (pa_cons pe_int pa_nil)) (pg_name (i := 4) sc_Lall.nd rfl (Or.inl rfl))
      (pss_one (ps_for PassesOwn.never rfl (pi_range1 (by rfl) Bt.b_range (pa_cons pe_int pa_nil)) (pg_name (i := 5) sc_Lall.nd rfl (Or.inl rfl))
      (pss_one (ps_if (pt_cmpR op_ne (pv 5) (pv 4) (nomark _)) (pss_cons (ps_set (i := 6) sc_Lall.nd rfl (Or.inl rfl) (pe_ifExp (pt_cmpR op_eq (pv 2) pe_int (nomark _)) (pe_fn F_Lback (hr.mono (by decide)) (by rfl) (pa_cons (pv 0) (pa_cons (pv 4) (pa_cons (pv 5) pa_nil)))) (pe_fn F_Lfront (hr.mono (by decide)) (by rfl) (pa_cons (pv 0) (pa_cons (pv 4) (pa_cons (pv 5) pa_nil))))))
      (pss_one (ps_expr (pe_bmK (K := K) rfl PySem.F.plainAttrs_list PySem.F.slot_list_extend PySem.F.type_list_extend mt_extend (pv 3) (pa_cons (pe_comp rfl (N := ["i", "j", "calls"]) (own := ["i", "j"]) (caps := [1]) (CompScope.of (by kernel_rfl)) (pi_listK (K := K) rfl (pv 6)) (fun _ _ _ _ => (pg_tupK (K := K) (n := 2) rfl rfl (pgs_cons (pg_name (i := 0) (show List.Nodup (["i", "j", "calls"] : List Str) by decide +kernel) rfl (Or.inl rfl)) (pgs_cons (pg_name (i := 1) (show List.Nodup (["i", "j", "calls"] : List Str) by decide +kernel) rfl (Or.inl rfl)) pgs_nil)))) (fun _ _ _ _ => pts_nil) (fun _ _ _ _ => (pe_op (op_catTK (K := K) rfl) (pe_ix (ix_listK (K := K) rfl) (pv 2) (pv 0) (fun _ _ => rfl)) (pe_ix (ix_listK (K := K) rfl) (pv 2) (pv 1) (fun _ _ => rfl))))) pa_nil))))) pss_nil)))))
      (pss_one (ps_ret (pv 3))))), ?_⟩
    refine ⟨(by show 0 ≤ sizeLine; decide), fun fo hfo => ?_⟩
    have s1 := same_new (o := HO.lst []) hfo
    refine ⟨_, rfl, by decide, by decide, ?_⟩
    refine for_range (lo := 0) (n := 8) (fun n σ H2 => ∃ (x1 x2 x3 : Option V), σ = [some (.ref a), some (.ref c), some (.int b), some (.ref fo), x1, x2, x3] ∧ Same H H2 ∧ NL H2 fo (n * 2400))
      ⟨none, none, none, rfl, s1, ⟨[], upd_same, by simp, fun v hv => by cases hv⟩⟩ ?_ ?_
    · rintro n σ H2 hn ⟨x1, x2, x3, rfl, sm, N2⟩
      refine ⟨_, rfl, by decide, by decide, ?_⟩
      refine for_range (lo := 0) (n := 8) (fun m σ H3 => ∃ (x2 x3 : Option V), σ = [some (.ref a), some (.ref c), some (.int b), some (.ref fo), some (.int (0 + (n : Int))), x2, x3] ∧ Same H H3 ∧ NL H3 fo (n * 2400 + m * 300))
        ⟨x2, x3, rfl, sm, N2⟩ ?_ ?_
      · rintro m σ H3 hm ⟨x2, x3, rfl, sm3, N3⟩
        refine ⟨_, rfl, _, rfl, rfl, _, rfl, ?_⟩
        refine ite2 (fun _ => ?_) (fun _ => ⟨_, _, rfl, sm3, N3.mono (by omega)⟩)
        refine seq_cps (fun σ H4 => ∃ (l : Addr) (L : List Prs), σ = [some (.ref a), some (.ref c), some (.int b), some (.ref fo), some (.int (0 + (n : Int))), some (.int (0 + (m : Int))), some (.ref l)] ∧ Same H3 H4 ∧ PrsAt H4 l L ∧ L.length ≤ 300 ∧ ∀ z ∈ L, 0 ≤ z.1 ∧ z.1 < ws.length ∧ 0 ≤ z.2 ∧ z.2 < ws.length) (fun D' hD' _ => ?_) ?_
        · refine ⟨_, rfl, rfl, _, rfl, ?_⟩
          refine ite2 (fun _ => ?_) (fun _ => ?_)
          · refine ⟨_, rfl, _, rfl, _, rfl, a, ws, _, _, rfl, W.same sm3, wl, fun l L H4 _ P4 l4 m4 s4 => hD' _ _ ⟨l, L, rfl, s4, P4, l4, m4⟩⟩
          · refine ⟨_, rfl, _, rfl, _, rfl, a, ws, _, _, rfl, W.same sm3, wl, fun l L H4 _ P4 l4 m4 s4 => hD' _ _ ⟨l, L.map prN, rfl, s4, P4, by rw [List.length_map]; exact l4, fun z hz => ?_⟩⟩
            obtain ⟨o, ho, rfl⟩ := List.mem_map.mp hz
            obtain ⟨q1, q2⟩ := m4 o ho
            show 0 ≤ (o.1 : Int) ∧ (o.1 : Int) < ws.length ∧ 0 ≤ (o.2 : Int) ∧ (o.2 : Int) < ws.length
            omega
        rintro σ H4 ⟨l, L, rfl, s4, P4, Ll, low⟩
        obtain ⟨fv, hf3, lf3, nf3⟩ := id N3
        have hf4 := s4 _ _ hf3
        obtain ⟨lv, hlv, dlv⟩ := id P4
        have lvl : lv.length = L.length := by rw [dlv.length, List.length_map]
        have sm4 := sm3.trans s4
        refine ⟨_, rfl, .inl ⟨rfl, _, SqL.of hf4⟩, _, rfl, l, rfl, ⟨_, SqL.of hlv⟩, fun D hD => ?_⟩
        refine comp_datP (K := K) (fun i => (L[i]?).map fun z => nD (((nm ws).getD z.1.toNat (0, 0)).1, ((nm ws).getD z.1.toNat (0, 0)).2, ((nm ws).getD z.2.toNat (0, 0)).1, ((nm ws).getD z.2.toNat (0, 0)).2)) (fun i d h => ?_) hD hlv (by omega) (fun i v hi => ?_) (fun i t x y H5 G F hi ht s5 kG kF => ?_) (fun H5 us s5 e5 d5 => ?_)
        · cases e : L[i]? with
          | none => rw [e] at h; cases h
          | some z => rw [e] at h; cases h; rfl
        · obtain ⟨z, t, _, rfl, ht⟩ := prs_get dlv hi
          exact ⟨t, _, _, rfl, ht⟩
        · obtain ⟨z, t', ez, e, ht'⟩ := prs_get dlv hi
          cases e
          rw [ht] at ht'
          cases ht'
          rw [ez] at kF
          obtain ⟨q1, q2, q3, q4⟩ := low z (List.mem_of_getElem? ez)
          have C5 := (C.same sm4).same s5
          obtain ⟨vc, t1, x, hc5, at1, ht1, g1⟩ := prs_nat C5 q1 (by rw [nm_length]; exact q2)
          obtain ⟨vc', t2, x', hc5', at2, ht2, g2⟩ := prs_nat C5 q3 (by rw [nm_length]; exact q4)
          refine iteT (B := G H5) ?_
          refine ⟨_, rfl, _, rfl, _, _, _, _, rfl, rfl, SqL.of hc5, at1, _, rfl, _, rfl, _, _, _, _, rfl, rfl, SqL.of hc5', at2, _, _, _, _, rfl, rfl, SqT.of ht1, SqT.of ht2, by simp, (by show 4 ≤ sizeLine; decide), fun z => by simp at z, fun _ p hp => ?_⟩
          refine kF _ _ _ (same_new hp) rfl (dat_nt (dat_nt2 ?_))
          rw [upd_same, List.getD_eq_getElem?_getD, List.getD_eq_getElem?_getD, g1, g2]
          rfl
        · have lu : us.length ≤ 300 := by
            rw [d5.length]
            exact Nat.le_trans (fm_len _ _) (by omega)
          refine ⟨fo, D, _, _, rfl, rfl, s5 _ _ hf4, e5, by rw [sizeLine_eq]; omega, ?_⟩
          have k6 : Kp fo H5 (upd H5 fo (.lst (fv ++ us))) := Kp.set
          have t6 := k6.tups (s5 _ _ hf4)
          refine ⟨_, _, rfl, fun b o eb => k6 _ _ (s5 _ _ (sm4 _ _ eb)) (ne_of_none eb hfo), fv ++ us, upd_same, by rw [List.length_append]; omega, ?_⟩
          refine Nts.app (nf3.tups fun a xs h => t6 _ _ (s5 _ _ (s4 _ _ h))) ?_
          refine Nts.tups ?_ t6
          have e : (List.range lv.length).filterMap (fun i => (L[i]?).map fun z => nD (((nm ws).getD z.1.toNat (0, 0)).1, ((nm ws).getD z.1.toNat (0, 0)).2, ((nm ws).getD z.2.toNat (0, 0)).1, ((nm ws).getD z.2.toNat (0, 0)).2)) = ((List.range lv.length).filterMap (fun i => (L[i]?).map fun z => (((nm ws).getD z.1.toNat (0, 0)).1, ((nm ws).getD z.1.toNat (0, 0)).2, ((nm ws).getD z.2.toNat (0, 0)).1, ((nm ws).getD z.2.toNat (0, 0)).2))).map nD := by
            rw [List.map_filterMap]
            congr 1
            funext i
            cases L[i]? <;> rfl
          rw [e] at d5
          exact Nts.of_dats d5
      · rintro σ H3 ⟨x2, x3, rfl, sm3, N3⟩
        exact ⟨_, _, _, rfl, sm3, N3.mono (by omega)⟩
    · rintro σ H2 ⟨x1, x2, x3, rfl, sm, N2⟩
      exact ⟨_, rfl, k fo H2 hfo (N2.mono (by omega)) sm⟩

/-! ### lists of notes that are drawn -/
section
variable {D r a : Addr} {te : TE} {Q : VK} {rest : St} {H1 : Hp} {n : Nat} {xs : List V}
/-- any note told, as a value -/
def AnyF (F : VK) (H : Hp) (r : Addr) : Prop := ∀ (t : Addr) (x : Nt) (H' : Hp), H' t = some (.tup (nV x)) → SpringOk H' r → Kp r H H' → F (.ref t) H'
theorem comp_sprN (hD : H1 D = none) (hS : SpringOk H1 r) (hx : n ≤ 100000)
    (hs : ∀ i H (F : VK), i < n → Kp r H1 H → SpringOk H r → AnyF F H r → te (some (.int (0 + i)) :: rest) H F)
    (hd : ∀ H (zs : List V), zs.length = n → H D = some (.lst zs) → Nts H zs → Kp r H1 H → SpringOk H r → Q (.ref D) H) : CompW (Itr 0 n) (gName 0) tAll te Q D (none :: rest) H1 := by
  have nr := hS.ne hD
  have mv : ∀ {H : Hp} {o : HO}, Kp r H1 H → Kp r H1 (upd H D o) := fun k c u e m => by rw [upd_ne (ne_of_none e hD)]; exact k c u e m
  refine comp_range (lo := 0) (n := n) (fun i σ H => (∃ v, σ = v :: rest) ∧ ∃ zs : List V, zs.length = i ∧ H D = some (.lst zs) ∧ Nts H zs ∧ Kp r H1 H ∧ SpringOk H r) ⟨⟨none, rfl⟩, [], rfl, upd_same, (fun v hv => by cases hv), .of_same (same_new hD), hS.keep (same_new hD)⟩ ?_ (fun σ H ⟨_, zs, hl, e, nt, k, B⟩ => hd H zs hl e nt k B)
  rintro i σ H hi ⟨⟨v, rfl⟩, zs, hl, e, nt, k1, B1⟩
  refine hs i H _ hi k1 B1 fun t x H' ht B2 k2 => ?_
  have e2 := k2 _ _ e nr
  have kp : Kp D H' (upd H' D (.lst (zs ++ [.ref t]))) := Kp.set
  refine ⟨_, e2, ?_, ⟨_, rfl⟩, zs ++ [.ref t], by simp [hl], upd_same, ?_, mv (k1.trans k2), B2.keep' Kp.set nr.symm⟩
  · rw [sizeLine_eq]; omega
  · exact Nts.app ((nt.tups (B1.tups k2)).tups (kp.tups e2)) (Nts.one (kp.tups e2 _ _ ht))
theorem comp_sprL (hD : H1 D = none) (hS : SpringOk H1 r) (ha : H1 a = some (.lst xs)) (nar : a ≠ r) (hx : xs.length ≤ 100000)
    (hs : ∀ (i : Nat) v H (F : VK), xs[i]? = some v → Kp r H1 H → SpringOk H r → AnyF F H r → te (some v :: rest) H F)
    (hd : ∀ H (zs : List V), zs.length = xs.length → H D = some (.lst zs) → Nts H zs → Kp r H1 H → SpringOk H r → Q (.ref D) H) : CompW (Itl K a) (gName 0) tAll te Q D (none :: rest) H1 := by
  have nr := hS.ne hD
  have mv : ∀ {H : Hp} {o : HO}, Kp r H1 H → Kp r H1 (upd H D o) := fun k c u e m => by rw [upd_ne (ne_of_none e hD)]; exact k c u e m
  refine comp_list (K := K) (xs := xs) (fun i σ H => (∃ v, σ = v :: rest) ∧ ∃ zs : List V, zs.length = i ∧ H D = some (.lst zs) ∧ Nts H zs ∧ Kp r H1 H ∧ SpringOk H r) ⟨⟨none, rfl⟩, [], rfl, upd_same, (fun v hv => by cases hv), .of_same (same_new hD), hS.keep (same_new hD)⟩ (fun i σ H _ ⟨_, _, _, _, _, k, _⟩ => SqL.of (k _ _ ha nar)) ?_ (fun σ H ⟨_, zs, hl, e, nt, k, B⟩ => hd H zs hl e nt k B)
  rintro i v σ H hi ⟨⟨u, rfl⟩, zs, hl, e, nt, k1, B1⟩
  have hil : i < xs.length := (List.getElem?_eq_some_iff.mp hi).1
  refine hs i v H _ hi k1 B1 fun t x H' ht B2 k2 => ?_
  have e2 := k2 _ _ e nr
  have kp : Kp D H' (upd H' D (.lst (zs ++ [.ref t]))) := Kp.set
  refine ⟨_, e2, ?_, ⟨_, rfl⟩, zs ++ [.ref t], by simp [hl], upd_same, ?_, mv (k1.trans k2), B2.keep' Kp.set nr.symm⟩
  · rw [sizeLine_eq]; omega
  · exact Nts.app ((nt.tups (B1.tups k2)).tups (kp.tups e2)) (Nts.one (kp.tups e2 _ _ ht))
end
def sp32D (K : PySem.W.Frag) : Sp := fun vs H Q _ => ∃ (r a : Addr) (m : Int), vs = [.ref r, .ref a, .int m] ∧ SpringOk H r ∧ NL H a 20000 ∧ a ≠ r ∧ 0 ≤ m ∧ m ≤ 100 ∧ ∀ (l : Addr) (H' : Hp), H l = none → NL H' l 100 → SpringOk H' r → Kp r H H' → Q (.ref l) H'
theorem ok_32D {f : Addr} {fd : FuncData} (F : Fun K "_law_dealt" "_law_dealt" s_Ldealt f fd) (F_Ldraw : FnAt P w K mg base 1 "_law_draw" ["spring", "many"] (spDraw K)) (Bt : Blt mg) : FnOk P w K mg base CX0 2 f fd ["spring", "some", "many"] (sp32D K) := by
  refine F.ok sc_Ldealt (fun vs H Q E h => ?_) (fun cdv A outer s H vs Q E hr h => ?_)
  · obtain ⟨r, a, m, rfl, _⟩ := h
    rfl
  · obtain ⟨r, a, m, rfl, S, N, nar, m0, m1, k⟩ := h
    have hu64 := hr.units
    refine ⟨_, (pss_cons (ps_set (i := 3) sc_Ldealt.nd rfl (Or.inl rfl) (pe_lst pa_nil))
      (pss_cons (ps_set (i := 4) sc_Ldealt.nd rfl (Or.inl rfl) (pe_callTy (call_list_ofK (K := K) rfl) (by rfl) Bt.b_list bt_list (pa_cons (pv 1) pa_nil)))
      (pss_cons (ps_for PassesOwn.never rfl (pi_range1 (by rfl) Bt.b_range (pa_cons (pe_callB (call_min2 rfl) (by rfl) Bt.b_min bt_min (pa_cons (pv 2) (pa_cons (pe_callB (call_len_seqK (K := K) rfl) (by rfl) Bt.b_len bt_len (pa_cons (pv 4) pa_nil)) pa_nil))) pa_nil)) (pg_name (i := 5) sc_Ldealt.nd rfl (Or.inl rfl))
      (pss_one (ps_expr (pe_appendK (K := K) rfl (pv 3) (pa_cons (pe_bmK (K := K) rfl PySem.F.plainAttrs_list PySem.F.slot_list_pop PySem.F.type_list_pop mt_popAt (pv 4) (pa_cons (pe_fn F_Ldraw (hr.mono (by decide)) (by rfl) (pa_cons (pv 0) (pa_cons (pe_callB (call_len_seqK (K := K) rfl) (by rfl) Bt.b_len bt_len (pa_cons (pv 4) pa_nil)) pa_nil))) pa_nil)) pa_nil)))))
      (pss_one (ps_ret (pv 3)))))), ?_⟩
    refine ⟨(by show 0 ≤ sizeLine; decide), fun fo hfo => ?_⟩
    have s1 := same_new (o := HO.lst []) hfo
    obtain ⟨vs, ha, vl, nt⟩ := id N
    refine ⟨_, rfl, a, vs, rfl, .inl (SqL.of (s1 _ _ ha)), fun le hle => ?_⟩
    have s2 := same_new (o := HO.lst vs) hle
    have s12 := s1.trans s2
    have hle0 : H le = none := s1.free hle
    refine ⟨_, rfl, _, rfl, le, _, rfl, .inl (SqL.of upd_same), _, _, rfl, _, rfl, ?_, ?_, ?_⟩
    · split <;> omega
    · split <;> omega
    obtain ⟨n, en, n1, n2⟩ : ∃ n : Nat, (if ((vs.length : Nat) : Int) < m then ((vs.length : Nat) : Int) else m).toNat = n ∧ n ≤ vs.length ∧ n ≤ 100 := ⟨_, rfl, by split <;> omega, by split <;> omega⟩
    rw [en]
    refine for_range (lo := 0) (n := n) (fun i σ H2 => ∃ (x1 : Option V) (fs ls : List V), σ = [some (.ref r), some (.ref a), some (.int m), some (.ref fo), some (.ref le), x1] ∧ Kp r H H2 ∧ SpringOk H2 r ∧ H2 fo = some (.lst fs) ∧ fs.length = i ∧ Nts H2 fs ∧ H2 le = some (.lst ls) ∧ ls.length + i = vs.length ∧ Nts H2 ls)
      ⟨none, [], vs, rfl, .of_same s12, S.keep s12, s2 _ _ upd_same, rfl, (fun v hv => by cases hv), upd_same, rfl, nt.same s12⟩ ?_ ?_
    · rintro i σ H2 hi ⟨x1, fs, ls, rfl, kp, S2, hf, fl, nf, hl, ll, nl⟩
      have nfr : fo ≠ r := S.ne hfo
      have nlr : le ≠ r := S.ne hle0
      have nfl : fo ≠ le := (ne_of_none (H := upd H fo (HO.lst [])) upd_same hle)
      refine ⟨_, rfl, .inl ⟨rfl, _, SqL.of hf⟩, _, rfl, .inl ⟨rfl, _, SqL.of hl⟩, _, rfl, _, rfl, le, _, rfl, .inl (SqL.of hl), r, _, rfl, S2, by omega, by omega, fun z H3 z0 z1 S3 k3 => ?_⟩
      have hf3 := k3 _ _ hf nfr
      have hl3 := k3 _ _ hl nlr
      have nf3 := nf.tups (S2.tups k3)
      have nl3 := nl.tups (S2.tups k3)
      obtain ⟨zn, rfl⟩ := Int.eq_ofNat_of_zero_le z0
      have zl : zn < ls.length := by omega
      obtain ⟨y, ey⟩ : ∃ y, ls[zn]? = some y := ⟨ls[zn], by simp [zl]⟩
      obtain ⟨t, x, rfl, ht⟩ := nl3.get ey
      refine ⟨le, ls, _, zn, _, rfl, rfl, hl3, by omega, by omega, ?_, ey, ?_⟩
      · unfold seqIndex?
        simp
        omega
      have kl : Kp le H3 (upd H3 le (.lst (ls.eraseIdx zn))) := Kp.set
      have tl := kl.tups hl3
      refine ⟨fo, fs, _, rfl, rfl, kl _ _ hf3 nfl, by rw [sizeLine_eq]; omega, ?_⟩
      have kf : Kp fo (upd H3 le (.lst (ls.eraseIdx zn))) (upd (upd H3 le (.lst (ls.eraseIdx zn))) fo (.lst (fs ++ [.ref t]))) := Kp.set
      have tf := kf.tups (kl _ _ hf3 nfl)
      refine ⟨_, fs ++ [.ref t], ls.eraseIdx zn, rfl, fun b o eb nb => ?_, ?_, upd_same, by simp [fl], ?_, kf _ _ upd_same nfl.symm, ?_, ?_⟩
      · exact kf _ _ (kl _ _ ((kp.trans k3) _ _ eb nb) (ne_of_none eb hle0)) (ne_of_none eb hfo)
      · exact (S3.keep' kl nlr.symm).keep' kf nfr.symm
      · exact Nts.app (nf3.tups fun a xs h => tf _ _ (tl _ _ h)) (Nts.one (tf _ _ (tl _ _ ht)))
      · rw [List.length_eraseIdx, if_pos zl]; omega
      · exact (nl3.sub fun v hv => List.mem_of_mem_eraseIdx hv).tups fun a xs h => tf _ _ (tl _ _ h)
    · rintro σ H2 ⟨x1, fs, ls, rfl, kp, S2, hf, fl, nf, hl, ll, nl⟩
      exact ⟨_, rfl, k fo H2 hfo ⟨fs, hf, by omega, nf⟩ S2 kp⟩

/-! ### a tuple led elsewhere, what is put in, the lists that are asked -/
theorem ones_len {α : Type} (l : List α) (f : Nat → Option V) : ((List.range l.length).filterMap f).length ≤ l.length := fm_len _ _
def sp32L (K : PySem.W.Frag) : Sp := fun vs H Q _ => ∃ (r c t : Addr) (ps : List Prs) (x : Nt), vs = [.ref r, .ref c, .ref t] ∧ SpringOk H r ∧ PrsAt H c ps ∧ c ≠ r ∧ ps.length ≤ 300 ∧ H t = some (.tup (nV x)) ∧ AnyN Q H r
theorem ok_32L {f : Addr} {fd : FuncData} (F : Fun K "_law_led" "_law_led" s_Lled f fd) (F_Ldraw : FnAt P w K mg base 1 "_law_draw" ["spring", "many"] (spDraw K)) (Bt : Blt mg) : FnOk P w K mg base CX0 2 f fd ["spring", "calls", "want"] (sp32L K) := by
  refine F.ok sc_Lled (fun vs H Q E h => ?_) (fun cdv A outer s H vs Q E hr h => ?_)
  · obtain ⟨r, c, t, ps, x, rfl, _⟩ := h
    rfl
  · obtain ⟨r, c, t, ps, x, rfl, S0, C, ncr, pl, ht, k⟩ := h
    have hu64 := hr.units
    refine ⟨_, (pss_cons (ps_set (i := 3) sc_Lled.nd rfl (Or.inr rfl) (pe_fn F_Ldraw (hr.mono (by decide)) (by rfl) (pa_cons (pv 0) (pa_cons pe_int pa_nil))))
      (pss_cons (ps_set (i := 4) sc_Lled.nd rfl (Or.inl rfl) (pe_fn F_Ldraw (hr.mono (by decide)) (by rfl) (pa_cons (pv 0) (pa_cons (pe_callB (call_max2 rfl) (by rfl) Bt.b_max bt_max (pa_cons pe_int (pa_cons (pe_callB (call_len_seqK (K := K) rfl) (by rfl) Bt.b_len bt_len (pa_cons (pe_comp rfl (N := ["call", "want", "which"]) (own := ["call"]) (caps := [2, 3]) (CompScope.of (by kernel_rfl)) (pi_listK (K := K) rfl (pv 1)) (fun _ _ _ _ => (pg_name (i := 0) (show List.Nodup (["call", "want", "which"] : List Str) by decide +kernel) rfl (Or.inl rfl))) (fun _ _ _ _ => (pts_one (pt_cmpR op_eq (pe_ix (ix_tupK (K := K) rfl) (pv 0) pe_int (fun _ _ => rfl)) (pe_ix (ix_tupK (K := K) rfl) (pv 1) (pe_op op_mul pe_int (pv 2)) (fun _ _ => rfl)) (nomark _)))) (fun _ _ _ _ => pe_int)) pa_nil)) pa_nil))) pa_nil))))
      (pss_one (ps_ret (pe_op op_catTU (pe_op op_catTU (pe_slice (sl_tupK (K := K) rfl) (pv 2) po_none (po_some (pe_op op_add (pe_op op_mul pe_int (pv 3)) pe_int))) (pe_tup (pa_cons (pv 4) pa_nil))) (pe_slice (sl_tupK (K := K) rfl) (pv 2) (po_some (pe_op op_add (pe_op op_mul pe_int (pv 3)) pe_int)) po_none)))))), ?_⟩
    refine ⟨_, rfl, r, 2, rfl, S0, by decide, by decide, fun wh H1 w0 w1 S1 k1 => ?_⟩
    have C1 := C.spr S0 k1 ncr
    have ht1 := S0.tups k1 _ _ ht
    obtain ⟨vs, hc, dv⟩ := id C1
    have vl : vs.length = ps.length := by rw [dv.length, List.length_map]
    have cm : CMul 2 wh := .inl ⟨by decide, by decide⟩
    obtain ⟨v, ev⟩ : ∃ v : Int, atI (nV x) (2 * wh) = some (.int v) := by
      have : wh = 0 ∨ wh = 1 := by omega
      rcases this with rfl | rfl <;> exact ⟨_, rfl⟩
    refine ⟨_, rfl, _, rfl, c, rfl, ⟨_, SqL.of hc⟩, fun D hD => ?_⟩
    refine comp_val (K := K) (fun i => (ps[i]?).bind fun y => if y.1 = v then some (V.int 1) else none) hD (SqL.of hc) (by omega) (fun i u H2 G F hi s2 kG kF => ?_) (fun H2 s2 e2 => ?_)
    · obtain ⟨y, t', ey, rfl, ht'⟩ := prs_get dv hi
      rw [ey] at kG kF
      simp only [Option.bind_some] at kG kF
      refine ⟨_, rfl, _, _, _, _, rfl, rfl, SqT.of (s2 _ _ ht'), rfl, _, rfl, _, rfl, _, _, rfl, rfl, cm, _, _, _, _, rfl, rfl, SqT.of (s2 _ _ ht1), ev, rfl, _, rfl, ?_⟩
      by_cases q : y.1 = v
      · rw [if_pos q] at kF
        rw [decide_eq_true (show V.int y.1 = V.int v by rw [q])]
        exact iteT (kF _ _ (Same.refl _) rfl)
      · rw [if_neg q] at kG
        rw [decide_eq_false (show ¬ V.int y.1 = V.int v from fun z => q (by injection z))]
        exact iteF (kG _ (Same.refl _) rfl)
    have ol := ones_len vs (fun i => (ps[i]?).bind fun y => if y.1 = v then some (V.int 1) else none)
    generalize (List.range vs.length).filterMap (fun i => (ps[i]?).bind fun y => if y.1 = v then some (V.int 1) else none) = os at e2 ol
    refine ⟨D, _, rfl, .inl (SqL.of e2), _, _, rfl, r, _, rfl, S1.keep s2, ?_, ?_, fun kk H3 k0 k9 S3 k3 => ?_⟩
    · split <;> omega
    · split <;> omega
    have ht3 := (S1.keep s2).tups k3 _ _ (s2 _ _ ht1)
    have k13 := (k1.trans (.of_same s2)).trans k3
    have a0 : 0 ≤ 2 * wh + 1 := by omega
    have a1 : 2 * wh + 1 < 4 := by omega
    refine ⟨_, rfl, _, rfl, _, _, rfl, rfl, cm, _, _, rfl, rfl, _, rfl, _, _, rfl, SqT.of ht3, put_a x a0 a1, fun q1 hq1 => ?_⟩
    have v1 := same_new (o := HO.tup (cutV (nV x) none (some (2 * wh + 1)))) hq1
    refine ⟨_, rfl, (by show 1 ≤ sizeLine; decide), fun q2 hq2 => ?_⟩
    have v2' := same_new (o := HO.tup [V.int kk]) hq2
    have l1' := cutV_length (nV x) none (some (2 * wh + 1))
    have l2' := cutV_length (nV x) (some (2 * wh + 1 + 1)) none
    have l4 : (nV x).length = 4 := rfl
    refine ⟨_, _, _, _, rfl, rfl, v2' _ _ upd_same, upd_same, by rw [sizeLine_eq]; simp only [List.length_singleton]; omega, fun q3 H5 e5 v3 => ?_⟩
    have v13 := (v1.trans v2').trans v3
    have e12 : 2 * wh + 2 = 2 * wh + 1 + 1 := by omega
    refine ⟨_, rfl, _, rfl, _, _, rfl, rfl, cm, _, _, rfl, rfl, _, rfl, _, _, rfl, SqT.of (v13 _ _ ht3), (show ¬ (HT.sIx (nV x).length 0 (some (2 * wh + 2)) = 0 ∧ HT.sIx (nV x).length (nV x).length none = (nV x).length) by rw [e12]; exact put_b x a0 a1), fun q4 hq4 => ?_⟩
    rw [show cutV (nV x) (some (2 * wh + 2)) none = cutV (nV x) (some (2 * wh + 1 + 1)) none by rw [e12]]
    have v4 := same_new (o := HO.tup (cutV (nV x) (some (2 * wh + 1 + 1)) none)) hq4
    refine ⟨_, _, _, _, rfl, rfl, v4 _ _ e5, upd_same, by rw [sizeLine_eq]; simp only [List.length_append, List.length_singleton]; omega, fun q5 H6 e6 v5 => ?_⟩
    rw [put_at x a0 a1] at e6
    have v15 := (v13.trans v4).trans v5
    exact k q5 (putN x (2 * wh + 1) kk) H6 e6 (S3.keep v15) (k13.trans (.of_same v15))
def sp32M (K : PySem.W.Frag) : Sp := fun vs H Q _ => ∃ (r a c s : Addr) (ws : List Tch) (kd : Int), vs = [.ref r, .ref a, .ref c, .ref s, .int kd] ∧ SpringOk H r ∧ WebAt H a ws ∧ a ≠ r ∧ PrsAt H c (nm ws) ∧ c ≠ r ∧ ws.length ≤ 300 ∧ NL H s 30000 ∧ s ≠ r ∧ ∀ (l : Addr) (H' : Hp), H l = none → NL H' l 2 → SpringOk H' r → Kp r H H' → Q (.ref l) H'
theorem ok_32M {f : Addr} {fd : FuncData} (F : Fun K "_law_more" "_law_more" s_Lmore f fd) (F_Ldraw : FnAt P w K mg base 1 "_law_draw" ["spring", "many"] (spDraw K)) (F_Lpick : FnAt P w K mg base 2 "_law_pick" ["spring", "web", "calls", "only"] (spPick K)) (F_Lfree : FnAt P w K mg base 2 "_law_free" ["spring", "calls"] (spFree K)) (Bt : Blt mg) : FnOk P w K mg base CX0 3 f fd ["spring", "web", "calls", "some", "kind"] (sp32M K) := by
  refine F.ok sc_Lmore (fun vs H Q E h => ?_) (fun cdv A outer s H vs Q E hr h => ?_)
  · obtain ⟨r, a, c, s, ws, kd, rfl, _⟩ := h
    rfl
  · obtain ⟨r, a, c, s, ws, kd, rfl, S0, W, nar, C, ncr, wl, N, nsr, k⟩ := h
    have hu64 := hr.units
    have nml : (nm ws).length ≤ 300 := by rw [nm_length]; exact wl
    refine ⟨_, (pss_cons (ps_if (PW.pt (pw_or (pt_cmpR op_eq (pv 4) pe_int (nomark _)) (pw_or1 (pt_cmpR op_eq (pv 4) pe_int (nomark _))))) (pss_one (ps_ret (pe_lst (pa_cons (pe_fn F_Lpick (hr.mono (by decide)) (by rfl) (pa_cons (pv 0) (pa_cons (pv 1) (pa_cons (pv 2) (pa_cons (pe_op op_mod (pv 4) pe_int) pa_nil))))) pa_nil)))) pss_nil)
      (pss_cons (ps_if (pt_cmpR op_eq (pv 4) pe_int (nomark _)) (pss_one (ps_ret (pe_comp rfl (N := ["turn", "some", "spring"]) (own := ["turn"]) (caps := [3, 0]) (CompScope.of (by kernel_rfl)) (pi_range1 (by rfl) Bt.b_range (pa_cons (pe_callB (call_min2 rfl) (by rfl) Bt.b_min bt_min (pa_cons pe_int (pa_cons (pe_callB (call_len_seqK (K := K) rfl) (by rfl) Bt.b_len bt_len (pa_cons (pv 3) pa_nil)) pa_nil))) pa_nil)) (fun _ _ _ _ => (pg_name (i := 0) (show List.Nodup (["turn", "some", "spring"] : List Str) by decide +kernel) rfl (Or.inl rfl))) (fun _ _ _ _ => pts_nil) (fun _ _ _ _ => (pe_ix (ix_listK (K := K) rfl) (pv 1) (pe_fn F_Ldraw (hr.mono (by decide)) (by rfl) (pa_cons (pv 2) (pa_cons (pe_callB (call_len_seqK (K := K) rfl) (by rfl) Bt.b_len bt_len (pa_cons (pv 1) pa_nil)) pa_nil))) (fun _ _ => rfl)))))) pss_nil)
      (pss_cons (ps_if (pt_cmpR op_eq (pv 4) pe_int (nomark _)) (pss_one (ps_ret (pe_lst (pa_cons (pe_fn F_Lfree (hr.mono (by decide)) (by rfl) (pa_cons (pv 0) (pa_cons (pv 2) pa_nil))) pa_nil)))) pss_nil)
      (pss_cons (ps_if (pt_cmpR op_eq (pv 4) pe_int (nomark _)) (pss_one (ps_ret (pe_lst (pa_cons (pe_fn F_Lfree (hr.mono (by decide)) (by rfl) (pa_cons (pv 0) (pa_cons (pv 2) pa_nil))) (pa_cons (pe_fn F_Lfree (hr.mono (by decide)) (by rfl) (pa_cons (pv 0) (pa_cons (pv 2) pa_nil))) pa_nil))))) pss_nil)
      (pss_one (ps_ret (pe_lst pa_nil))))))), ?_⟩
    have fin1 : ∀ (t : Addr) (x : Nt) (H1 : Hp), H1 t = some (.tup (nV x)) → SpringOk H1 r → Kp r H H1 → ∀ l, H1 l = none → Q (.ref l) (upd H1 l (HO.lst [.ref t])) := fun t x H1 ht S1 k1 l hl => by
      have s2 := same_new (o := HO.lst [V.ref t]) hl
      exact k l _ (Kp.new k1 hl S1.at) ⟨[.ref t], upd_same, by show 1 ≤ 2; decide, Nts.one (s2 _ _ ht)⟩ (S1.keep s2) (k1.trans (.of_same s2))
    refine ⟨_, rfl, rfl, _, rfl, ?_⟩
    refine orGoal ?_ (fun _ hA => ?_)
    · refine ⟨_, rfl, _, rfl, _, rfl, _, rfl, _, _, rfl, rfl, (by show (0 : Int) < 2; decide), r, a, c, ws, _, rfl, S0, W, nar, C, ncr, wl, fun t x H1 ht S1 k1 => ?_⟩
      exact ⟨(by show 1 ≤ sizeLine; decide), fin1 t x H1 ht S1 k1⟩
    refine ⟨_, rfl, rfl, _, rfl, ?_⟩
    refine ite2 (fun _ => hA) (fun _ => ?_)
    clear hA
    -- kind == 5
    refine ⟨_, rfl, rfl, _, rfl, ?_⟩
    refine ite2 (fun _ => ?_) (fun _ => ?_)
    · obtain ⟨vs, hs, vl, nt⟩ := id N
      refine ⟨_, rfl, s, _, rfl, .inl (SqL.of hs), _, _, rfl, _, rfl, ?_, ?_, fun D hD => ?_⟩
      · split <;> omega
      · split <;> omega
      obtain ⟨n, en, n1, n2⟩ : ∃ n : Nat, (if ((vs.length : Nat) : Int) < 1 then ((vs.length : Nat) : Int) else 1).toNat = n ∧ n ≤ 1 ∧ (0 < n → 0 < vs.length) := ⟨_, rfl, by split <;> omega, by split <;> omega⟩
      rw [en]
      refine comp_sprN hD S0 (by omega) (fun i H1 F hi k1 S1 kF => ?_) (fun H1 zs zl e1 nz k1 S1 => ?_)
      · have hs1 := k1 _ _ hs nsr
        refine ⟨_, rfl, _, rfl, _, rfl, s, _, rfl, .inl (SqL.of hs1), r, _, rfl, S1, by omega, by omega, fun z H2 z0 z1 S2 k2 => ?_⟩
        obtain ⟨zn, rfl⟩ := Int.eq_ofNat_of_zero_le z0
        have zl : zn < vs.length := by omega
        obtain ⟨y, ey⟩ : ∃ y, vs[zn]? = some y := ⟨vs[zn], by simp [zl]⟩
        obtain ⟨t, x, rfl, ht⟩ := ((nt.tups (S0.tups k1)).tups (S1.tups k2)).get ey
        exact ⟨_, _, _, _, rfl, rfl, SqL.of (k2 _ _ hs1 nsr), atI_nat ey, kF t x H2 ht S2 k2⟩
      · exact k D H1 hD ⟨zs, e1, by omega, nz⟩ S1 k1
    -- kind == 12
    refine ⟨_, rfl, rfl, _, rfl, ?_⟩
    refine ite2 (fun _ => ?_) (fun _ => ?_)
    · refine ⟨_, rfl, _, rfl, r, c, nm ws, rfl, S0, C, ncr, nml, fun t x H1 ht S1 k1 => ?_⟩
      exact ⟨(by show 1 ≤ sizeLine; decide), fin1 t x H1 ht S1 k1⟩
    -- kind == 13
    refine ⟨_, rfl, rfl, _, rfl, ?_⟩
    refine ite2 (fun _ => ?_) (fun _ => ?_)
    · refine ⟨_, rfl, _, rfl, r, c, nm ws, rfl, S0, C, ncr, nml, fun t x H1 ht S1 k1 => ?_⟩
      refine ⟨_, rfl, _, rfl, r, c, nm ws, rfl, S1, C.spr S0 k1 ncr, ncr, nml, fun t2 x2 H2 ht2 S2 k2 => ?_⟩
      refine ⟨(by show 2 ≤ sizeLine; decide), fun l hl => ?_⟩
      have s3 := same_new (o := HO.lst [V.ref t, V.ref t2]) hl
      have k12 := k1.trans k2
      exact k l _ (Kp.new k12 hl S2.at) ⟨[.ref t, .ref t2], upd_same, by show 2 ≤ 2; decide, Nts.app (Nts.one (s3 _ _ (S1.tups k2 _ _ ht))) (Nts.one (s3 _ _ ht2))⟩ (S2.keep s3) (k12.trans (.of_same s3))
    · refine ⟨(by show 0 ≤ sizeLine; decide), fun l hl => ?_⟩
      have s3 := same_new (o := HO.lst []) hl
      exact k l _ hl ⟨[], upd_same, by show 0 ≤ 2; decide, fun v hv => by cases hv⟩ (S0.keep s3) (.of_same s3)

def s32 (r a c u : Addr) (kd sz at_ : Int) (so : Addr) (x1 x2 x3 : Option V) : St := [some (.ref r), some (.ref a), some (.ref c), some (.ref u), some (.int kd), some (.int sz), some (.int at_), some (.ref so), x1, x2, x3]
theorem cut_sub {xs : List V} {i j : Option Int} {v : V} (h : v ∈ cutV xs i j) : v ∈ xs := by
  unfold cutV at h
  exact List.mem_of_mem_drop (List.mem_of_mem_take h)
def sp32S (K : PySem.W.Frag) : Sp := fun vs H Q _ => ∃ (r a c u : Addr) (ws : List Tch) (kd : Int), vs = [.ref r, .ref a, .ref c, .ref u, .int kd] ∧ SpringOk H r ∧ WebAt H a ws ∧ a ≠ r ∧ PrsAt H c (nm ws) ∧ c ≠ r ∧ ws.length ≤ 300 ∧ NL H u 20000 ∧ u ≠ r ∧ ∀ (l : Addr) (H' : Hp), NL H' l 90000 → l ≠ r → SpringOk H' r → Kp r H H' → Q (.ref l) H'
theorem ok_32S {f : Addr} {fd : FuncData} (F : Fun K "_law_some" "_law_some" s_Lsome f fd) (F_Ldraw : FnAt P w K mg base 1 "_law_draw" ["spring", "many"] (spDraw K)) (F_Ldealt : FnAt P w K mg base 2 "_law_dealt" ["spring", "some", "many"] (sp32D K)) (F_Lpick : FnAt P w K mg base 2 "_law_pick" ["spring", "web", "calls", "only"] (spPick K)) (F_Lmore : FnAt P w K mg base 3 "_law_more" ["spring", "web", "calls", "some", "kind"] (sp32M K)) (F_Lled : FnAt P w K mg base 2 "_law_led" ["spring", "calls", "want"] (sp32L K)) (F_Lstrange : FnAt P w K mg base 2 "_law_strange" ["spring", "note"] (spStrange K)) (Bt : Blt mg) : FnOk P w K mg base CX0 4 f fd ["spring", "web", "calls", "wants", "kind"] (sp32S K) := by
  refine F.ok sc_Lsome (fun vs H Q E h => ?_) (fun cdv A outer s H vs Q E hr h => ?_)
  · obtain ⟨r, a, c, u, ws, kd, rfl, _⟩ := h
    rfl
  · obtain ⟨r, a, c, u, ws, kd, rfl, S0, W, nar, C, ncr, wl, N, nur, k⟩ := h
    have hu64 := hr.units
    have nml : (nm ws).length ≤ 300 := by rw [nm_length]; exact wl
    refine ⟨_, (pss_cons (ps_set (i := 5) sc_Lsome.nd rfl (Or.inl rfl) (pe_fn F_Ldraw (hr.mono (by decide)) (by rfl) (pa_cons (pv 0) (pa_cons pe_int pa_nil))))
      (pss_cons (ps_set (i := 6) sc_Lsome.nd rfl (Or.inl rfl) (pe_fn F_Ldraw (hr.mono (by decide)) (by rfl) (pa_cons (pv 0) (pa_cons (pe_callB (call_max2 rfl) (by rfl) Bt.b_max bt_max (pa_cons pe_int (pa_cons (pe_callB (call_len_seqK (K := K) rfl) (by rfl) Bt.b_len bt_len (pa_cons (pv 3) pa_nil)) pa_nil))) pa_nil))))
      (pss_cons (ps_set (i := 7) sc_Lsome.nd rfl (Or.inl rfl) (pe_op op_cat (pe_slice (sl_listK (K := K) rfl) (pv 3) (po_some (pv 6)) po_none) (pe_slice (sl_listK (K := K) rfl) (pv 3) po_none (po_some (pv 6)))))
      (pss_cons (ps_if (pt_cmpR op_gt (pv 5) pe_int (nomark _)) (pss_one (ps_set (i := 7) sc_Lsome.nd rfl (Or.inl rfl) (pe_fn F_Ldealt (hr.mono (by decide)) (by rfl) (pa_cons (pv 0) (pa_cons (pv 3) (pa_cons (pe_op op_add pe_int (pe_fn F_Ldraw (hr.mono (by decide)) (by rfl) (pa_cons (pv 0) (pa_cons (pe_ix (ix_listK (K := K) rfl) (pe_lst (pa_cons pe_int (pa_cons pe_int pa_nil))) (pe_op op_sub (pv 5) pe_int) (fun _ _ => rfl)) pa_nil)))) pa_nil)))))) pss_nil)
      (pss_cons (ps_if (pt_cmpR op_eq (pv 4) pe_int (nomark _)) (pss_one (ps_ret (pe_comp rfl (N := ["again", "spring", "web", "calls"]) (own := ["again"]) (caps := [0, 1, 2]) (CompScope.of (by kernel_rfl)) (pi_range1 (by rfl) Bt.b_range (pa_cons (pe_fn F_Ldraw (hr.mono (by decide)) (by rfl) (pa_cons (pv 0) (pa_cons pe_int pa_nil))) pa_nil)) (fun _ _ _ _ => (pg_name (i := 0) (show List.Nodup (["again", "spring", "web", "calls"] : List Str) by decide +kernel) rfl (Or.inl rfl))) (fun _ _ _ _ => pts_nil) (fun _ _ _ _ => (pe_fn F_Lpick (hr.mono (by decide)) (by rfl) (pa_cons (pv 1) (pa_cons (pv 2) (pa_cons (pv 3) (pa_cons pe_int pa_nil))))))))) pss_nil)
      (pss_cons (ps_if (pt_cmpR op_eq (pv 4) pe_int (nomark _)) (pss_one (ps_ret (pe_lst pa_nil))) pss_nil)
      (pss_cons (ps_for PassesOwn.never rfl (pi_listK (K := K) rfl (pe_fn F_Lmore (hr.mono (by decide)) (by rfl) (pa_cons (pv 0) (pa_cons (pv 1) (pa_cons (pv 2) (pa_cons (pv 7) (pa_cons (pv 4) pa_nil))))))) (pg_name (i := 8) sc_Lsome.nd rfl (Or.inl rfl))
      (pss_cons (ps_set (i := 9) sc_Lsome.nd rfl (Or.inl rfl) (pe_fn F_Ldraw (hr.mono (by decide)) (by rfl) (pa_cons (pv 0) (pa_cons (pe_op op_add (pe_callB (call_len_seqK (K := K) rfl) (by rfl) Bt.b_len bt_len (pa_cons (pv 7) pa_nil)) pe_int) pa_nil))))
      (pss_one (ps_set (i := 7) sc_Lsome.nd rfl (Or.inl rfl) (pe_op op_cat (pe_op op_cat (pe_slice (sl_listK (K := K) rfl) (pv 7) po_none (po_some (pv 9))) (pe_lst (pa_cons (pv 8) pa_nil))) (pe_slice (sl_listK (K := K) rfl) (pv 7) (po_some (pv 9)) po_none))))))
      (pss_cons (ps_set (i := 6) sc_Lsome.nd rfl (Or.inl rfl) (pe_fn F_Ldraw (hr.mono (by decide)) (by rfl) (pa_cons (pv 0) (pa_cons (pe_callB (call_max2 rfl) (by rfl) Bt.b_max bt_max (pa_cons pe_int (pa_cons (pe_callB (call_len_seqK (K := K) rfl) (by rfl) Bt.b_len bt_len (pa_cons (pv 7) pa_nil)) pa_nil))) pa_nil))))
      (pss_cons (ps_set (i := 10) sc_Lsome.nd rfl (Or.inl rfl) (pe_slice (sl_listK (K := K) rfl) (pv 7) (po_some (pv 6)) (po_some (pe_op op_add (pv 6) pe_int))))
      (pss_cons (ps_if (PW.pt (pw_or (pt_cmpR op_eq (pv 4) pe_int (nomark _)) (pw_or1 (pt_cmpR op_eq (pv 4) pe_int (nomark _))))) (pss_one (ps_setC (i := 10) rfl sc_Lsome.nd rfl (Or.inl rfl) (N := ["want", "spring", "calls"]) (own := ["want"]) (caps := [0, 2]) (CompScope.of (by kernel_rfl)) (pi_listK (K := K) rfl (pv 10)) (fun _ _ _ _ => (pg_name (i := 0) (show List.Nodup (["want", "spring", "calls"] : List Str) by decide +kernel) rfl (Or.inl rfl))) (fun _ _ _ _ => pts_nil) (fun _ _ _ _ => (pe_fn F_Lled (hr.mono (by decide)) (by rfl) (pa_cons (pv 1) (pa_cons (pv 2) (pa_cons (pv 0) pa_nil))))))) pss_nil)
      (pss_cons (ps_if (PW.pt (pw_or (pt_cmpR op_eq (pv 4) pe_int (nomark _)) (pw_or1 (pt_cmpR op_eq (pv 4) pe_int (nomark _))))) (pss_one (ps_setC (i := 10) rfl sc_Lsome.nd rfl (Or.inl rfl) (N := ["want", "spring"]) (own := ["want"]) (caps := [0]) (CompScope.of (by kernel_rfl)) (pi_listK (K := K) rfl (pv 10)) (fun _ _ _ _ => (pg_name (i := 0) (show List.Nodup (["want", "spring"] : List Str) by decide +kernel) rfl (Or.inl rfl))) (fun _ _ _ _ => pts_nil) (fun _ _ _ _ => (pe_fn F_Lstrange (hr.mono (by decide)) (by rfl) (pa_cons (pv 1) (pa_cons (pv 0) pa_nil)))))) pss_nil)
      (pss_one (ps_ret (pe_op op_cat (pe_op op_cat (pe_slice (sl_listK (K := K) rfl) (pv 7) po_none (po_some (pv 6))) (pv 10)) (pe_slice (sl_listK (K := K) rfl) (pv 7) (po_some (pe_op op_add (pv 6) pe_int)) po_none))))))))))))))), ?_⟩
    refine ⟨_, rfl, r, 3, rfl, S0, by decide, by decide, fun sz H1 z0 z1 S1 k1 => ?_⟩
    obtain ⟨uv, hu, ul, nt⟩ := id (N.spr S0 k1 nur)
    refine ⟨_, rfl, _, rfl, u, _, rfl, .inl (SqL.of hu), _, _, rfl, r, _, rfl, S1, ?_, ?_, fun at_ H2 a0 a1 S2 k2 => ?_⟩
    · split <;> omega
    · split <;> omega
    have hu2 := k2 _ _ hu nur
    have nt2 := nt.tups (S1.tups k2)
    have k02 := k1.trans k2
    -- wants[at:] + wants[:at]
    refine ⟨_, rfl, _, rfl, _, rfl, _, _, rfl, SqL.of hu2, fun p1 hp1 => ?_⟩
    have s3 := same_new (o := HO.lst (cutV uv (some at_) none)) hp1
    refine ⟨_, rfl, _, rfl, _, rfl, _, _, rfl, SqL.of (s3 _ _ hu2), fun p2 hp2 => ?_⟩
    have s4 := same_new (o := HO.lst (cutV uv none (some at_))) hp2
    have c1 := cutV_length uv (some at_) none
    have c2 := cutV_length uv none (some at_)
    refine ⟨_, _, _, _, rfl, rfl, s4 _ _ upd_same, upd_same, by rw [sizeLine_eq]; omega, fun p3 hp3 => ?_⟩
    have s5 := same_new (o := HO.lst (cutV uv (some at_) none ++ cutV uv none (some at_))) hp3
    have s35 := (s3.trans s4).trans s5
    have n3 : p3 ≠ r := S2.ne ((s3.trans s4).free hp3)
    have N5 : NL (upd (upd (upd H2 p1 (HO.lst (cutV uv (some at_) none))) p2 (HO.lst (cutV uv none (some at_)))) p3 (HO.lst (cutV uv (some at_) none ++ cutV uv none (some at_)))) p3 20000 := by
      refine ⟨_, upd_same, ?_, ?_⟩
      · obtain ⟨an, rfl⟩ := Int.eq_ofNat_of_zero_le a0
        rw [List.length_append, cut_take, cut_drop, List.length_take, List.length_drop]; omega
      · exact Nts.app ((nt2.same s35).sub fun v hv => cut_sub hv) ((nt2.same s35).sub fun v hv => cut_sub hv)
    have S5 := S2.keep s35
    have k05 : Kp r H _ := k02.trans (.of_same s35)
    generalize upd (upd (upd H2 p1 (HO.lst (cutV uv (some at_) none))) p2 (HO.lst (cutV uv none (some at_)))) p3 (HO.lst (cutV uv (some at_) none ++ cutV uv none (some at_))) = H5 at N5 S5 k05 ⊢
    -- if size > 0
    dsimp only
    refine seq_cps (fun σ H6 => ∃ so, σ = s32 r a c u kd sz at_ so none none none ∧ Kp r H H6 ∧ SpringOk H6 r ∧ NL H6 so 20000 ∧ so ≠ r) (fun D' hD' _ => ?_) ?_
    · refine ⟨_, rfl, _, _, rfl, rfl, _, rfl, ?_⟩
      refine ite2 (fun w => ?_) (fun _ => hD' _ _ ⟨p3, rfl, k05, S5, N5, n3⟩)
      have w : sz > 0 := of_decide_eq_true w
      refine ⟨_, rfl, _, rfl, _, rfl, (by show 2 ≤ sizeLine; decide), fun q hq => ?_⟩
      have s6 := same_new (o := HO.lst [V.int 5, V.int 60]) hq
      obtain ⟨b, eb, b0, b1⟩ : ∃ b : Int, atI [V.int 5, V.int 60] (sz - 1) = some (.int b) ∧ 1 ≤ b ∧ b ≤ 60 := by
        have : sz = 1 ∨ sz = 2 := by omega
        rcases this with rfl | rfl
        · exact ⟨5, rfl, by decide, by decide⟩
        · exact ⟨60, rfl, by decide, by decide⟩
      refine ⟨_, rfl, _, _, rfl, rfl, _, _, _, _, rfl, rfl, SqL.of upd_same, eb, r, _, rfl, S5.keep s6, by omega, by omega, fun m H7 m0 m1 S7 k7 => ⟨_, _, rfl, rfl, ?_⟩⟩
      have k07 : Kp r H H7 := (k05.trans (.of_same s6)).trans k7
      refine ⟨r, u, _, rfl, S7, N.spr S0 k07 nur, nur, by omega, by omega, fun l H8 hl N8 S8 k8 => ?_⟩
      exact hD' _ _ ⟨l, rfl, k07.trans k8, S8, N8.mono (by decide), S7.ne hl⟩
    rintro σ H6 ⟨so, rfl, k6, S6, N6, n6⟩
    clear N5 S5 k05 n3 nt2 hu2 k02 s35 s3 s4 s5 hp1 hp2 hp3 hu nt S2 k2 S1 k1
    -- kind == 10
    refine ⟨_, rfl, rfl, _, rfl, ?_⟩
    refine ite2 (fun _ => ?_) (fun _ => ?_)
    · refine ⟨_, rfl, r, 8, rfl, S6, by decide, by decide, fun z H7 z0 z1 S7 k7 => ⟨_, rfl, by omega, by omega, fun D hD => ?_⟩⟩
      refine comp_sprN hD S7 (by omega) (fun i H8 F hi k8 S8 kF => ?_) (fun H8 zs zl e8 nz k8 S8 => ?_)
      · have k08 : Kp r H H8 := (k6.trans k7).trans k8
        exact ⟨_, rfl, _, rfl, _, rfl, r, a, c, ws, _, rfl, S8, W.spr S0 k08 nar, nar, C.spr S0 k08 ncr, ncr, wl, kF⟩
      · exact k D H8 ⟨zs, e8, by omega, nz⟩ (S7.ne hD) S8 ((k6.trans k7).trans k8)
    -- kind == 11
    refine ⟨_, rfl, rfl, _, rfl, ?_⟩
    refine ite2 (fun _ => ?_) (fun _ => ?_)
    · refine ⟨(by show 0 ≤ sizeLine; decide), fun l hl => ?_⟩
      have s7 := same_new (o := HO.lst []) hl
      exact k l _ ⟨[], upd_same, by show 0 ≤ 90000; decide, fun v hv => by cases hv⟩ (S6.ne hl) (S6.keep s7) (k6.trans (.of_same s7))
    -- for one in more
    refine ⟨_, rfl, _, rfl, _, rfl, _, rfl, _, rfl, r, a, c, so, ws, kd, rfl, S6, W.spr S0 k6 nar, nar, C.spr S0 k6 ncr, ncr, wl, N6.mono (by decide), n6, fun ml H7 hml M7 S7 k7 => ?_⟩
    obtain ⟨ms, hm, mlen, nm7⟩ := id M7
    have nmr : ml ≠ r := S6.ne hml
    refine ⟨ml, rfl, ⟨_, SqL.of hm⟩, ?_⟩
    refine for_list (K := K) (a := ml) (xs := ms) (fun i σ H8 => ∃ (so : Addr) (x1 x2 : Option V), σ = s32 r a c u kd sz at_ so x1 x2 none ∧ Kp r H7 H8 ∧ SpringOk H8 r ∧ NL H8 so (20000 + i) ∧ so ≠ r)
      ⟨so, none, none, rfl, Kp.refl _ _, S7, N6.spr S6 k7 n6, n6⟩ (fun i σ H8 _ ⟨_, _, _, _, kp, _⟩ => SqL.of (kp _ _ hm nmr)) ?_ ?_
    · rintro i v σ H8 hi ⟨so, x1, x2, rfl, k8, S8, N8, n8⟩
      have hil : i < ms.length := (List.getElem?_eq_some_iff.mp hi).1
      obtain ⟨sv, hs8, sl8, ns8⟩ := id N8
      refine ⟨_, rfl, _, rfl, so, _, rfl, .inl (SqL.of hs8), _, _, rfl, rfl, r, _, rfl, S8, by omega, by omega, fun to H9 t0 t1 S9 k9 => ?_⟩
      have hs9 := k9 _ _ hs8 n8
      have ns9 := ns8.tups (S8.tups k9)
      refine ⟨_, rfl, _, rfl, _, rfl, _, _, rfl, SqL.of hs9, fun p1 hp1 => ?_⟩
      have s1 := same_new (o := HO.lst (cutV sv none (some to))) hp1
      refine ⟨_, rfl, (by show 1 ≤ sizeLine; decide), fun p2 hp2 => ?_⟩
      have s2 := same_new (o := HO.lst [v]) hp2
      have c1 := cutV_length sv none (some to)
      have c2 := cutV_length sv (some to) none
      obtain ⟨tn, rfl⟩ := Int.eq_ofNat_of_zero_le t0
      have e1 : cutV sv none (some (tn : Int)) = sv.take tn := cut_take ..
      have e2 : cutV sv (some (tn : Int)) none = sv.drop tn := cut_drop ..
      refine ⟨_, _, _, _, rfl, rfl, s2 _ _ upd_same, upd_same, by rw [sizeLine_eq]; simp only [List.length_singleton]; omega, fun p3 hp3 => ?_⟩
      have s3 := same_new (o := HO.lst (cutV sv none (some (tn : Int)) ++ [v])) hp3
      have s13 := (s1.trans s2).trans s3
      refine ⟨_, rfl, _, rfl, _, rfl, _, _, rfl, SqL.of (s13 _ _ hs9), fun p4 hp4 => ?_⟩
      have s4 := same_new (o := HO.lst (cutV sv (some (tn : Int)) none)) hp4
      refine ⟨_, _, _, _, rfl, rfl, s4 _ _ upd_same, upd_same, by rw [sizeLine_eq]; simp only [List.length_append, List.length_singleton]; omega, fun p5 hp5 => ?_⟩
      have s5 := same_new (o := HO.lst ((cutV sv none (some (tn : Int)) ++ [v]) ++ cutV sv (some (tn : Int)) none)) hp5
      have s14 := s13.trans s4
      have s15 := s14.trans s5
      have nv : Nts H9 [v] := ((nm7.tups (S7.tups k8)).tups (S8.tups k9)).sub fun w hw => by rw [List.mem_singleton.mp hw]; exact List.mem_of_getElem? hi
      refine ⟨p5, _, _, rfl, (k8.trans k9).trans (.of_same s15), S9.keep s15, ⟨_, upd_same, ?_, ?_⟩, S9.ne (s14.free hp5)⟩
      · rw [List.length_append, List.length_append, e1, e2, List.length_take, List.length_drop, List.length_singleton]; omega
      · exact Nts.app (Nts.app ((ns9.same s15).sub fun v hv => cut_sub hv) (nv.same s15)) ((ns9.same s15).sub fun v hv => cut_sub hv)
    rintro σ H8 ⟨so, x1, x2, rfl, k8, S8, N8, n8⟩
    have k08 : Kp r H H8 := (k6.trans k7).trans k8
    clear hm nm7 M7 hml nmr k7 k8 N6 n6 S7
    obtain ⟨sv, hs8, sl8, ns8⟩ := id N8
    refine ⟨_, rfl, _, rfl, so, _, rfl, .inl (SqL.of hs8), _, _, rfl, r, _, rfl, S8, ?_, ?_, fun at2 H9 t0 t1 S9 k9 => ?_⟩
    · split <;> omega
    · split <;> omega
    have hs9 := k9 _ _ hs8 n8
    have ns9 := ns8.tups (S8.tups k9)
    have k09 := k08.trans k9
    refine ⟨_, rfl, _, rfl, _, rfl, _, rfl, _, _, rfl, rfl, _, rfl, _, _, rfl, SqL.of hs9, fun be hbe => ?_⟩
    have s1 := same_new (o := HO.lst (cutV sv (some at2) (some (at2 + 1)))) hbe
    have cb := cutV_length sv (some at2) (some (at2 + 1))
    have nbr : be ≠ r := S9.ne hbe
    have NB : NL (upd H9 be (HO.lst (cutV sv (some at2) (some (at2 + 1))))) be 20010 := ⟨_, upd_same, by omega, (ns9.same s1).sub fun v hv => cut_sub hv⟩
    have hs10 := s1 _ _ hs9
    have ns10 := ns9.same s1
    have S10 := S9.keep s1
    have k10 : Kp r H _ := k09.trans (.of_same s1)
    generalize upd H9 be (HO.lst (cutV sv (some at2) (some (at2 + 1)))) = H10 at NB hs10 ns10 S10 k10 ⊢
    dsimp only
    refine seq_cps (fun σ H11 => ∃ be, σ = s32 r a c u kd sz at2 so x1 x2 (some (.ref be)) ∧ Kp r H H11 ∧ SpringOk H11 r ∧ NL H11 be 20010 ∧ be ≠ r ∧ H11 so = some (.lst sv) ∧ Nts H11 sv) (fun D' hD' _ => ?_) ?_
    · have go : ∀ be H11, NL H11 be 20010 → be ≠ r → SpringOk H11 r → Kp r H H11 → H11 so = some (.lst sv) → Nts H11 sv → D'.nx (s32 r a c u kd sz at2 so x1 x2 (some (.ref be))) H11 := fun be H11 p1 p2 p3 p4 p5 p6 => hD' _ _ ⟨be, rfl, p4, p3, p1, p2, p5, p6⟩
      refine ⟨_, rfl, rfl, _, rfl, ?_⟩
      have led : ∀ {G : Prop}, G → G := fun h => h
      obtain ⟨bv, hb, bl, nb⟩ := id NB
      refine orGoal ?_ (fun _ b => ⟨_, rfl, rfl, _, rfl, ite2 (fun _ => b) (fun _ => go be H10 NB nbr S10 k10 hs10 ns10)⟩)
      refine ⟨_, rfl, be, rfl, ⟨_, SqL.of hb⟩, fun D hD => ?_⟩
      refine comp_sprL hD S10 hb nbr (by omega) (fun i v H11 F hi k11 S11 kF => ?_) (fun H11 zs zl e11 nz k11 S11 => ?_)
      · obtain ⟨t, x, rfl, ht⟩ := (nb.tups (S10.tups k11)).get hi
        exact ⟨_, rfl, _, rfl, _, rfl, r, c, t, nm ws, x, rfl, S11, C.spr S0 (k10.trans k11) ncr, ncr, nml, ht, kF⟩
      · exact go D H11 ⟨zs, e11, by omega, nz⟩ (S10.ne hD) S11 (k10.trans k11) (k11 _ _ hs10 n8) (ns10.tups (S10.tups k11))
    rintro σ H11 ⟨be, rfl, k11, S11, NB, nbr, hs11, ns11⟩
    refine seq_cps (fun σ H12 => ∃ be, σ = s32 r a c u kd sz at2 so x1 x2 (some (.ref be)) ∧ Kp r H H12 ∧ SpringOk H12 r ∧ NL H12 be 20010 ∧ be ≠ r ∧ H12 so = some (.lst sv) ∧ Nts H12 sv) (fun D' hD' _ => ?_) ?_
    · have go : ∀ be H11, NL H11 be 20010 → be ≠ r → SpringOk H11 r → Kp r H H11 → H11 so = some (.lst sv) → Nts H11 sv → D'.nx (s32 r a c u kd sz at2 so x1 x2 (some (.ref be))) H11 := fun be H11 p1 p2 p3 p4 p5 p6 => hD' _ _ ⟨be, rfl, p4, p3, p1, p2, p5, p6⟩
      refine ⟨_, rfl, rfl, _, rfl, ?_⟩
      obtain ⟨bv, hb, bl, nb⟩ := id NB
      refine orGoal ?_ (fun _ b => ⟨_, rfl, rfl, _, rfl, ite2 (fun _ => b) (fun _ => go be H11 NB nbr S11 k11 hs11 ns11)⟩)
      refine ⟨_, rfl, be, rfl, ⟨_, SqL.of hb⟩, fun D hD => ?_⟩
      refine comp_sprL hD S11 hb nbr (by omega) (fun i v H12 F hi k12 S12 kF => ?_) (fun H12 zs zl e12 nz k12 S12 => ?_)
      · obtain ⟨t, x, rfl, ht⟩ := (nb.tups (S11.tups k12)).get hi
        exact ⟨_, rfl, _, rfl, r, t, x, rfl, S12, ht, kF⟩
      · exact go D H12 ⟨zs, e12, by omega, nz⟩ (S11.ne hD) S12 (k11.trans k12) (k12 _ _ hs11 n8) (ns11.tups (S11.tups k12))
    rintro σ H12 ⟨be, rfl, k12, S12, NB, nbr, hs12, ns12⟩
    obtain ⟨bv, hb, bl, nb⟩ := id NB
    refine ⟨_, rfl, _, rfl, _, rfl, _, _, rfl, SqL.of hs12, fun p1 hp1 => ?_⟩
    have s1 := same_new (o := HO.lst (cutV sv none (some at2))) hp1
    have c1 := cutV_length sv none (some at2)
    have c2 := cutV_length sv (some (at2 + 1)) none
    refine ⟨_, rfl, _, _, _, _, rfl, rfl, upd_same, s1 _ _ hb, by rw [sizeLine_eq]; omega, fun p2 hp2 => ?_⟩
    have s2 := same_new (o := HO.lst (cutV sv none (some at2) ++ bv)) hp2
    have s12 := s1.trans s2
    refine ⟨_, rfl, _, rfl, _, _, rfl, rfl, _, rfl, _, _, rfl, SqL.of (s12 _ _ hs12), fun p3 hp3 => ?_⟩
    have s3 := same_new (o := HO.lst (cutV sv (some (at2 + 1)) none)) hp3
    refine ⟨_, _, _, _, rfl, rfl, s3 _ _ upd_same, upd_same, by rw [sizeLine_eq]; simp only [List.length_append]; omega, fun p4 hp4 => ?_⟩
    have s4 := same_new (o := HO.lst ((cutV sv none (some at2) ++ bv) ++ cutV sv (some (at2 + 1)) none)) hp4
    have s13 := s12.trans s3
    have s14 := s13.trans s4
    refine k p4 _ ⟨_, upd_same, by rw [List.length_append, List.length_append]; omega, ?_⟩ (S12.ne (s13.free hp4)) (S12.keep s14) (k12.trans (.of_same s14))
    exact Nts.app (Nts.app ((ns12.same s14).sub fun v hv => cut_sub hv) (nb.same s14)) ((ns12.same s14).sub fun v hv => cut_sub hv)

theorem LT.tbl {p : Addr} {H : Hp} (h : LT p H) : ∃ ps, H p = some (.tbl ps) := by
  rcases h with e | ⟨c, e, _⟩
  · exact ⟨_, e⟩
  · exact ⟨_, e⟩
theorem LT.same {p : Addr} {H H' : Hp} (h : LT p H) (s : Same H H') : LT p H' := by
  rcases h with e | ⟨c, e, f⟩
  · exact .inl (s _ _ e)
  · exact .inr ⟨c, s _ _ e, s _ _ f⟩
theorem LT.ne {p a : Addr} {H : Hp} {o : HO} (h : LT p H) (e : H a = some o) (n : ∀ ps, o ≠ .tbl ps) : a ≠ p := fun z => by
  obtain ⟨ps, q⟩ := h.tbl
  rw [z, q] at e
  cases e
  exact n _ rfl
theorem Kp.tupsT {p : Addr} {H H' : Hp} (k : Kp p H H') (h : LT p H) : ∀ a xs, H a = some (HO.tup xs) → H' a = some (HO.tup xs) := fun a xs e => k _ _ e (h.ne e (by intro ps z; cases z))
theorem WebAt.kpT {p a : Addr} {H H' : Hp} {ws : List Tch} (h : WebAt H a ws) (k : Kp p H H') (l : LT p H) : WebAt H' a ws := by
  obtain ⟨vs, e, d⟩ := h
  exact ⟨vs, k _ _ e (l.ne e (by intro ps z; cases z)), Dats.keep (Kp.tupsT k l) _ (imms_map _ imm_tD ws) d⟩
theorem NtsAt.kpT {p a : Addr} {H H' : Hp} {ws : List Nt} (h : NtsAt H a ws) (k : Kp p H H') (l : LT p H) : NtsAt H' a ws := by
  obtain ⟨vs, e, d⟩ := h
  exact ⟨vs, k _ _ e (l.ne e (by intro ps z; cases z)), Dats.keep (Kp.tupsT k l) _ (imms_map _ imm_nD ws) d⟩
theorem LT.kpL {p r : Addr} {H H' : Hp} {ys : List V} (h : LT p H) (hr : H r = some (.lst ys)) (k : Kp r H H') : LT p H' := by
  have nr := h.ne hr (by intro ps z; cases z)
  rcases h with e | ⟨c, e, f⟩
  · exact .inl (k _ _ e nr.symm)
  · exact .inr ⟨c, k _ _ e nr.symm, k _ _ f (ne_of f hr (by intro z; cases z))⟩
theorem LT.spr {p r : Addr} {H H' : Hp} (h : LT p H) (S : SpringOk H r) (k : Kp r H H') : LT p H' := by
  obtain ⟨f1, f2, f3, e1, _⟩ := S
  exact h.kpL e1 k
theorem SpringOk.kpT {p r : Addr} {H H' : Hp} (S : SpringOk H r) (k : Kp p H H') (l : LT p H) : SpringOk H' r := by
  obtain ⟨f1, f2, f3, e1, q⟩ := S
  exact ⟨f1, f2, f3, k _ _ e1 (l.ne e1 (by intro ps z; cases z)), q⟩
/-! ### the law -/
structure Q32 (H0 : Hp) (p r D w c u : Addr) (ws : List Tch) (zs : List Int) (H : Hp) : Prop where
  sp : SpringOk H r
  web : WebAt H w ws
  cl : PrsAt H c (nm ws)
  wn : NL H u 20000
  kd : H D = some (.lst (zs.map V.int))
  lt : LT p H
  ne : w ≠ r ∧ c ≠ r ∧ u ≠ r ∧ D ≠ r
theorem PrsAt.kpT {p a : Addr} {H H' : Hp} {ws : List Prs} (h : PrsAt H a ws) (k : Kp p H H') (l : LT p H) : PrsAt H' a ws := by
  obtain ⟨vs, e, d⟩ := h
  exact ⟨vs, k _ _ e (l.ne e (by intro ps z; cases z)), Dats.keep (Kp.tupsT k l) _ (imms_map _ imm_pD ws) d⟩
theorem NL.kpT {p a : Addr} {H H' : Hp} {n : Nat} (h : NL H a n) (k : Kp p H H') (l : LT p H) : NL H' a n := by
  obtain ⟨vs, e, q, z⟩ := h
  exact ⟨vs, k _ _ e (l.ne e (by intro ps z; cases z)), q, z.tups (Kp.tupsT k l)⟩
section
variable {H0 : Hp} {p r D w c u : Addr} {ws : List Tch} {zs : List Int} {H H' : Hp}
theorem Q32.same (h : Q32 H0 p r D w c u ws zs H) (s : Same H H') : Q32 H0 p r D w c u ws zs H' := ⟨h.sp.keep s, h.web.same s, h.cl.same s, h.wn.same s, s _ _ h.kd, h.lt.same s, h.ne⟩
theorem Q32.kpT (h : Q32 H0 p r D w c u ws zs H) (k : Kp p H H') (t : LT p H') : Q32 H0 p r D w c u ws zs H' := ⟨h.sp.kpT k h.lt, h.web.kpT k h.lt, h.cl.kpT k h.lt, h.wn.kpT k h.lt, k _ _ h.kd (h.lt.ne h.kd (by intro ps z; cases z)), t, h.ne⟩
theorem Q32.spr (h : Q32 H0 p r D w c u ws zs H) (k : Kp r H H') (S : SpringOk H' r) : Q32 H0 p r D w c u ws zs H' := ⟨S, h.web.spr h.sp k h.ne.1, h.cl.spr h.sp k h.ne.2.1, h.wn.spr h.sp k h.ne.2.2.1, k _ _ h.kd h.ne.2.2.2, h.lt.spr h.sp k, h.ne⟩
end
def hD32 (ws : List Tch) (ns : List Nt) : PyData := .tuple [.list (ws.map tD), .list (ns.map nD)]
theorem dat_h32 {H : Hp} {t l s : Addr} {ws : List Tch} {ns : List Nt} (h : H t = some (.tup [.ref l, .ref s])) (W : WebAt H l ws) (N : NtsAt H s ns) : Dat H (.ref t) (hD32 ws ns) := by
  obtain ⟨v1, e1, d1⟩ := W
  obtain ⟨v2, e2, d2⟩ := N
  unfold hD32
  simp only [Dat]
  refine ⟨t, _, rfl, h, ?_⟩
  simp only [Dats]
  exact ⟨dat_list e1 d1, dat_list e2 d2, trivial⟩
theorem shaped_h32 {ws : List Tch} {ns : List Nt} (ok : ∀ x ∈ ws, TchOk x) : SeqAt.shaped (hD32 ws ns) = true := by
  have h1 := shaped_web ok
  have h2 := shaped_nts ns
  have d1 : PyData.depth (.list (ws.map tD)) ≤ 63 := by
    show PyData.depthAll (ws.map tD) + 1 ≤ 63
    have := depthAll_map tD 1 ws (fun x _ => by show (max 0 (max 0 (max 0 0))) + 1 ≤ 1; decide)
    omega
  have d2 : PyData.depth (.list (ns.map nD)) ≤ 63 := by
    show PyData.depthAll (ns.map nD) + 1 ≤ 63
    have := depthAll_map nD 1 ns (fun _ _ => by show (max 0 (max 0 (max 0 (max 0 0)))) + 1 ≤ 1; decide)
    omega
  unfold SeqAt.shaped at h1 h2 ⊢
  rw [Bool.and_eq_true] at h1 h2
  have e1 : PyData.canLay0 (hD32 ws ns) = (PyData.canLay0 (.list (ws.map tD)) && (PyData.canLay0 (.list (ns.map nD)) && true)) := rfl
  have e2 : PyData.depth (hD32 ws ns) = max (PyData.depth (.list (ws.map tD))) (max (PyData.depth (.list (ns.map nD))) 0) + 1 := rfl
  rw [e1, e2, h1.1, h2.1]
  simp only [Bool.and_true, Bool.true_and, decide_eq_true_iff]
  omega
theorem eqv_h32 (ws : List Tch) (ns : List Nt) : PyData.eqv (hD32 ws ns) (hD32 ws ns) = true := by
  have e : PyData.eqv (hD32 ws ns) (hD32 ws ns) = (PyData.eqv (.list (ws.map tD)) (.list (ws.map tD)) && (PyData.eqv (.list (ns.map nD)) (.list (ns.map nD)) && true)) := rfl
  rw [e, eqv_list tD eqv_tD, eqv_list nD eqv_nD]
  simp
def spLaw (p : Addr) (K : PySem.W.Frag) : Sp := fun vs H Q _ => ∃ (a : Addr) (ns : List Int), vs = [.ref a] ∧ SqL K H a (ns.map V.int) ∧ ns.length ≤ 63 ∧ H p = some (.tbl #[]) ∧ ∀ H', Q (.bl true) H'
theorem ok_law {p : Addr} {f : Addr} {fd : FuncData} (F : Fun K "law" "law" s_law f fd) (F_Lspring : FnAt P w K mg base 1 "_law_spring" ["script"] (spSpring K)) (F_Ldraw : FnAt P w K mg base 1 "_law_draw" ["spring", "many"] (spDraw K)) (F_Lweb : FnAt P w K mg base 2 "_law_web" ["spring", "most"] (spWeb K)) (F_Lcalls : FnAt P w K mg base 1 "_law_calls" ["web"] (spCalls K)) (F_Lall : FnAt P w K mg base 4 "_law_all" ["web", "calls", "behind"] (sp32A K)) (F_Lsome : FnAt P w K mg base 4 "_law_some" ["spring", "web", "calls", "wants", "kind"] (sp32S K)) (F_apart_shows : FnAt P w K mg base 5 "apart_shows" ["web", "wants"] (spApS p K)) (F_Lapart : FnAt P w K mg base 2 "_law_apart" ["web", "calls", "some"] (spLap K)) (Bt : Blt mg) : FnOk P w K mg base CX0 6 f fd ["script"] (spLaw p K) := by
  refine F.ok sc_law (fun vs H Q E h => ?_) (fun cdv A outer s H vs Q E hr h => ?_)
  · obtain ⟨a, ns, rfl, _⟩ := h
    rfl
  · obtain ⟨sa, sns, rfl, hS, hlen, hp0, k⟩ := h
    have hu64 := hr.units
    have hu := hu_of hr
    refine ⟨_, (pss_cons (ps_set (i := 1) sc_law.nd rfl (Or.inr rfl) (pe_fn F_Lspring (hr.mono (by decide)) (by rfl) (pa_cons (pv 0) pa_nil)))
      (pss_cons (ps_setC (i := 2) rfl sc_law.nd rfl (Or.inl rfl) (N := ["again", "spring"]) (own := ["again"]) (caps := [1]) (CompScope.of (by kernel_rfl)) (pi_range1 (by rfl) Bt.b_range (pa_cons (pe_op op_add pe_int (pe_callB (call_min2 rfl) (by rfl) Bt.b_min bt_min (pa_cons (pe_callB (call_len_seqK (K := K) rfl) (by rfl) Bt.b_len bt_len (pa_cons (pv 0) pa_nil)) (pa_cons pe_int pa_nil)))) pa_nil)) (fun _ _ _ _ => (pg_name (i := 0) (show List.Nodup (["again", "spring"] : List Str) by decide +kernel) rfl (Or.inl rfl))) (fun _ _ _ _ => pts_nil) (fun _ _ _ _ => (pe_fn F_Ldraw (hr.mono (by decide)) (by rfl) (pa_cons (pv 1) (pa_cons pe_int pa_nil)))))
      (pss_cons (ps_set (i := 3) sc_law.nd rfl (Or.inl rfl) (pe_fn F_Ldraw (hr.mono (by decide)) (by rfl) (pa_cons (pv 1) (pa_cons pe_int pa_nil))))
      (pss_cons (ps_set (i := 4) sc_law.nd rfl (Or.inl rfl) (pe_fn F_Lweb (hr.mono (by decide)) (by rfl) (pa_cons (pv 1) (pa_cons pe_int pa_nil))))
      (pss_cons (ps_set (i := 5) sc_law.nd rfl (Or.inl rfl) (pe_fn F_Lcalls (hr.mono (by decide)) (by rfl) (pa_cons (pv 4) pa_nil)))
      (pss_cons (ps_set (i := 6) sc_law.nd rfl (Or.inl rfl) (pe_fn F_Lall (hr.mono (by decide)) (by rfl) (pa_cons (pv 4) (pa_cons (pv 5) (pa_cons (pv 3) pa_nil)))))
      (pss_cons (ps_for PassesOwn.never rfl (pi_listK (K := K) rfl (pv 2)) (pg_name (i := 7) sc_law.nd rfl (Or.inl rfl))
      (pss_cons (ps_set (i := 8) sc_law.nd rfl (Or.inl rfl) (pe_fn F_Lsome (hr.mono (by decide)) (by rfl) (pa_cons (pv 1) (pa_cons (pv 4) (pa_cons (pv 5) (pa_cons (pv 6) (pa_cons (pv 7) pa_nil)))))))
      (pss_cons (ps_set (i := 9) sc_law.nd rfl (Or.inl rfl) (pe_tup (pa_cons (pe_callTy (call_list_ofK (K := K) rfl) (by rfl) Bt.b_list bt_list (pa_cons (pv 4) pa_nil)) (pa_cons (pe_callTy (call_list_ofK (K := K) rfl) (by rfl) Bt.b_list bt_list (pa_cons (pv 8) pa_nil)) pa_nil))))
      (pss_cons (ps_set (i := 10) sc_law.nd rfl (Or.inl rfl) (pe_fn F_apart_shows (hr.mono (by decide)) (by rfl) (pa_cons (pe_ix (ix_tupK (K := K) rfl) (pv 9) pe_int (fun _ _ => rfl)) (pa_cons (pe_ix (ix_tupK (K := K) rfl) (pv 9) pe_int (fun _ _ => rfl)) pa_nil))))
      (pss_one (ps_if (PW.pt (pw_or (pt_not (pt_val (pe_callB (call_isiK (K := K) (cv := .ty "bool") (c := .type "bool") rfl rfl) (by rfl) Bt.b_isinstance bt_isinstance (pa_cons (pv 10) (pa_cons (pe_bltn (v := .ty "bool") (by rfl) Bt.b_bool bt_bool rfl) pa_nil))))) (pw_or (pt_cmpR op_ne (pv 10) (pe_fn F_Lapart (hr.mono (by decide)) (by rfl) (pa_cons (pv 4) (pa_cons (pv 5) (pa_cons (pv 8) pa_nil)))) (nomark _)) (pw_or1 (pt_cmpR (op_neDK (K := K) rfl hu64) (pv 9) (pe_tup (pa_cons (pv 4) (pa_cons (pv 8) pa_nil))) (nomark _)))))) (pss_one (ps_ret pe_bl)) pss_nil))))))
      (pss_one (ps_ret pe_bl))))))))), ?_⟩
    refine seq_one (fun R g => ?_)
    refine ⟨_, rfl, sa, sns, rfl, hS, hlen, fun r H1 hr1 S1 sm1 => ?_⟩
    refine g _ _ ?_
    refine seq_one (fun R g => ?_)
    refine ⟨_, rfl, sa, _, rfl, .inl (sm1.seq hS), _, _, rfl, _, _, rfl, rfl, _, rfl, ?_, ?_, fun D hD => ?_⟩
    · rw [List.length_map]; split <;> omega
    · rw [List.length_map]; split <;> omega
    have few : ((1 + (if (6 : Int) < ((sns.map V.int).length : Int) then 6 else ((sns.map V.int).length : Int))).toNat : Nat) ≤ 9 := by rw [List.length_map]; split <;> omega
    refine comp_sprR hD S1 (by omega) (fun i H2 F hi k2 S2 kF => ?_) (fun H2 zs zl e2 k2 S2 => ?_)
    · exact ⟨_, rfl, r, 14, rfl, S2, by decide, by decide, fun z H3 z0 z1 S3 k3 => kF _ H3 k3 S3⟩
    have nDr := S1.ne hD
    refine g _ _ ?_
    refine seq_one (fun R g => ?_)
    refine ⟨_, rfl, r, 2, rfl, S2, by decide, by decide, fun be Hb b0 b1 Sb kb => ?_⟩
    refine g _ _ ?_
    refine seq_one (fun R g => ?_)
    refine ⟨_, rfl, r, 300, rfl, Sb, by decide, by decide, fun a ws H3 ha0 W3 ok wl S3 k3 => ?_⟩
    refine g _ _ ?_
    have nar := Sb.ne ha0
    refine seq_one (fun R g => ?_)
    refine ⟨_, rfl, a, ws, rfl, W3, ok, wl, fun c H4 hc0 C4 s4 => ?_⟩
    refine g _ _ ?_
    have ncr := S3.ne hc0
    refine seq_one (fun R g => ?_)
    refine ⟨_, rfl, _, rfl, _, rfl, a, c, ws, be, rfl, W3.same s4, C4, wl, fun u H5 hu0 N5 s5 => ?_⟩
    refine g _ _ ?_
    have nur := (S3.keep s4).ne hu0
    have lt1 : LT p H1 := .inl (sm1 _ _ hp0)
    have lt3 : LT p H3 := ((lt1.spr S1 k2).spr S2 kb).spr Sb k3
    have s45 := s4.trans s5
    have I0 : Q32 H p r D a c u ws zs H5 := ⟨S3.keep s45, W3.same s45, C4.same s5, N5, s45 _ _ (k3 _ _ (kb _ _ e2 nDr) nDr), lt3.same s45, nar, ncr, nur, nDr⟩
    clear s45 lt3 lt1 N5 s5 hu0 C4 s4 hc0 W3 S3 k3 ha0 Sb kb e2 k2 S2
    refine ⟨_, rfl, D, rfl, ⟨_, SqL.of I0.kd⟩, ?_⟩
    refine for_list (K := K) (a := D) (xs := zs.map V.int) (fun i σ H5 => ∃ (x1 x2 x3 x4 : Option V), σ = [some (.ref sa), some (.ref r), some (.ref D), some (.int be), some (.ref a), some (.ref c), some (.ref u), x1, x2, x3, x4] ∧ Q32 H p r D a c u ws zs H5)
      ⟨none, none, none, none, rfl, I0⟩ (fun i σ H5 _ ⟨_, _, _, _, _, I⟩ => SqL.of I.kd) ?_ ?_
    · clear I0
      rintro i v σ H5 hi ⟨x1, x2, x3, x4, rfl, I⟩
      obtain ⟨kd, rfl⟩ : ∃ sh, v = V.int sh := by
        rw [List.getElem?_map] at hi
        cases e : zs[i]? with
        | none => rw [e] at hi; cases hi
        | some z => rw [e] at hi; exact ⟨z, (Option.some.inj hi).symm⟩
      refine ⟨_, rfl, _, rfl, _, rfl, _, rfl, _, rfl, r, a, c, u, ws, kd, rfl, I.sp, I.web, I.ne.1, I.cl, I.ne.2.1, wl, I.wn, I.ne.2.2.1, fun so H6 N6 nso S6 k6 => ?_⟩
      have I6 := I.spr k6 S6
      obtain ⟨ns, M6, nsl⟩ := N6.nts
      clear I k6 S6 N6
      -- handed
      obtain ⟨wv, hw, dw⟩ := id I6.web
      refine ⟨_, rfl, a, _, rfl, .inl (SqL.of hw), fun l1 hl1 => ?_⟩
      have s1 := same_new (o := HO.lst wv) hl1
      obtain ⟨nv, hn, dn⟩ := id (M6.same s1)
      refine ⟨_, rfl, so, _, rfl, .inl (SqL.of hn), fun l2 hl2 => ?_⟩
      have s2 := same_new (o := HO.lst nv) hl2
      refine ⟨(by show 2 ≤ sizeLine; decide), fun hd hhd => ?_⟩
      have s3 := same_new (o := HO.tup [V.ref l1, V.ref l2]) hhd
      have s13 := (s1.trans s2).trans s3
      have I7 := I6.same s13
      have M7 := M6.same s13
      have L1 : WebAt (upd (upd (upd H6 l1 (HO.lst wv)) l2 (HO.lst nv)) hd (HO.tup [V.ref l1, V.ref l2])) l1 ws := ⟨wv, (s2.trans s3) _ _ upd_same, Dats.keep s13.tups _ (imms_map _ imm_tD ws) dw⟩
      have L2 : NtsAt (upd (upd (upd H6 l1 (HO.lst wv)) l2 (HO.lst nv)) hd (HO.tup [V.ref l1, V.ref l2])) l2 ns := ⟨nv, s3 _ _ upd_same, Dats.keep (s2.trans s3).tups _ (imms_map _ imm_nD ns) dn⟩
      have HD : (upd (upd (upd H6 l1 (HO.lst wv)) l2 (HO.lst nv)) hd (HO.tup [V.ref l1, V.ref l2])) hd = some (.tup [.ref l1, .ref l2]) := upd_same
      generalize upd (upd (upd H6 l1 (HO.lst wv)) l2 (HO.lst nv)) hd (HO.tup [V.ref l1, V.ref l2]) = H7 at I7 M7 L1 L2 HD ⊢
      clear s13 s3 s2 s1 hn dn hw dw I6 M6
      -- found
      refine ⟨_, rfl, _, _, _, _, rfl, rfl, SqT.of HD, rfl, _, rfl, _, _, _, _, rfl, rfl, SqT.of HD, rfl, l1, l2, ws, ns, rfl, L1, wl, L2, nsl, I7.lt, fun b H8 hb k8 lt8 => ?_⟩
      have I8 := I7.kpT k8 lt8
      have M8 := M7.kpT k8 I7.lt
      have L18 := L1.kpT k8 I7.lt
      have L28 := L2.kpT k8 I7.lt
      have HD8 := Kp.tupsT k8 I7.lt _ _ HD
      clear I7 M7 L1 L2 HD k8 lt8
      refine ⟨_, rfl, _, _, true, rfl, .bl _, isi_bool_bool K, true, rfl, ?_⟩
      refine (show if false = true then _ else _ from iteF ?_)
      refine ⟨_, rfl, _, rfl, _, rfl, _, rfl, a, c, so, ws, ns, rfl, I8.web, I8.cl, wl, M8, nsl, fun b2 H9 hb2 s9 => ?_⟩
      have eb : b = b2 := by rw [Bool.eq_iff_iff, hb, hb2]
      subst eb
      refine ⟨rfl, _, rfl, ?_⟩
      rw [show (!decide (V.bl b = V.bl b)) = false by simp]
      refine (show if false = true then _ else _ from iteF ?_)
      unfold tNext
      dsimp only
      have I9 := I8.same s9
      -- handed != (web, some)
      refine ⟨_, rfl, _, rfl, _, rfl, (by show 2 ≤ sizeLine; decide), fun v1 hv1 => ?_⟩
      have t1 := same_new (o := HO.tup [V.ref a, V.ref so]) hv1
      have t9 := s9.trans t1
      refine ⟨_, _, dat_h32 (t9 _ _ HD8) (L18.same t9) (L28.same t9), dat_h32 upd_same (I9.web.same t1) (M8.same t9), shaped_h32 ok, shaped_h32 ok, _, rfl, ?_⟩
      rw [if_pos rfl, eqv_h32]
      refine iteF ?_
      exact ⟨_, _, _, _, rfl, I9.same t1⟩
    · rintro σ H5 ⟨x1, x2, x3, x4, rfl, I⟩
      exact k H5

end
theorem len0 {us : List Value} (h : us.length = 0) : us = [] := List.eq_nil_of_length_eq_zero h
theorem lenS {us : List Value} {n : Nat} (h : us.length = n + 1) : ∃ a vs, us = a :: vs ∧ vs.length = n := by
  cases us with
  | nil => cases h
  | cons a t => exact ⟨a, t, rfl, Nat.succ.inj h⟩
theorem bi_Lspring (kV doc pm : Value) (an : Option Addr) (cdv ct : Value) (us : List Value) (hl : us.length = (["script"] : List Str).length) : bindArgs (PySem.W.fnOf "_law_spring" "_law_spring" (defArgs s_Lspring) (defBody s_Lspring) (defScope s_Lspring) .none kV doc pm an cdv ct) ⟨us, []⟩ = pure ((["script"] : List Str).zip us) := by obtain ⟨_, _, rfl, h1⟩ := lenS hl; cases len0 h1; rfl
theorem bi_Ldraw (kV doc pm : Value) (an : Option Addr) (cdv ct : Value) (us : List Value) (hl : us.length = (["spring", "many"] : List Str).length) : bindArgs (PySem.W.fnOf "_law_draw" "_law_draw" (defArgs s_Ldraw) (defBody s_Ldraw) (defScope s_Ldraw) .none kV doc pm an cdv ct) ⟨us, []⟩ = pure ((["spring", "many"] : List Str).zip us) := by obtain ⟨_, _, rfl, h1⟩ := lenS hl; obtain ⟨_, _, rfl, h2⟩ := lenS h1; cases len0 h2; rfl
theorem bi_Lweb (kV doc pm : Value) (an : Option Addr) (cdv ct : Value) (us : List Value) (hl : us.length = (["spring", "most"] : List Str).length) : bindArgs (PySem.W.fnOf "_law_web" "_law_web" (defArgs s_Lweb) (defBody s_Lweb) (defScope s_Lweb) .none kV doc pm an cdv ct) ⟨us, []⟩ = pure ((["spring", "most"] : List Str).zip us) := by obtain ⟨_, _, rfl, h1⟩ := lenS hl; obtain ⟨_, _, rfl, h2⟩ := lenS h1; cases len0 h2; rfl
theorem bi_is_whole (kV doc pm : Value) (an : Option Addr) (cdv ct : Value) (us : List Value) (hl : us.length = (["value"] : List Str).length) : bindArgs (PySem.W.fnOf "is_whole" "is_whole" (defArgs s_is_whole) (defBody s_is_whole) (defScope s_is_whole) .none kV doc pm an cdv ct) ⟨us, []⟩ = pure ((["value"] : List Str).zip us) := by obtain ⟨_, _, rfl, h1⟩ := lenS hl; cases len0 h1; rfl
theorem bi_names (kV doc pm : Value) (an : Option Addr) (cdv ct : Value) (us : List Value) (hl : us.length = (["web"] : List Str).length) : bindArgs (PySem.W.fnOf "names" "names" (defArgs s_names) (defBody s_names) (defScope s_names) .none kV doc pm an cdv ct) ⟨us, []⟩ = pure ((["web"] : List Str).zip us) := by obtain ⟨_, _, rfl, h1⟩ := lenS hl; cases len0 h1; rfl
theorem bi_touches_meet (kV doc pm : Value) (an : Option Addr) (cdv ct : Value) (us : List Value) (hl : us.length = (["one", "other"] : List Str).length) : bindArgs (PySem.W.fnOf "touches_meet" "touches_meet" (defArgs s_touches_meet) (defBody s_touches_meet) (defScope s_touches_meet) .none kV doc pm an cdv ct) ⟨us, []⟩ = pure ((["one", "other"] : List Str).zip us) := by obtain ⟨_, _, rfl, h1⟩ := lenS hl; obtain ⟨_, _, rfl, h2⟩ := lenS h1; cases len0 h2; rfl
theorem bi_is_note (kV doc pm : Value) (an : Option Addr) (cdv ct : Value) (us : List Value) (hl : us.length = (["value"] : List Str).length) : bindArgs (PySem.W.fnOf "is_note" "is_note" (defArgs s_is_note) (defBody s_is_note) (defScope s_is_note) .none kV doc pm an cdv ct) ⟨us, []⟩ = pure ((["value"] : List Str).zip us) := by obtain ⟨_, _, rfl, h1⟩ := lenS hl; cases len0 h1; rfl
theorem bi_is_strict (kV doc pm : Value) (an : Option Addr) (cdv ct : Value) (us : List Value) (hl : us.length = (["places", "note"] : List Str).length) : bindArgs (PySem.W.fnOf "is_strict" "is_strict" (defArgs s_is_strict) (defBody s_is_strict) (defScope s_is_strict) .none kV doc pm an cdv ct) ⟨us, []⟩ = pure ((["places", "note"] : List Str).zip us) := by obtain ⟨_, _, rfl, h1⟩ := lenS hl; obtain ⟨_, _, rfl, h2⟩ := lenS h1; cases len0 h2; rfl
theorem bi_places_of (kV doc pm : Value) (an : Option Addr) (cdv ct : Value) (us : List Value) (hl : us.length = (["web"] : List Str).length) : bindArgs (PySem.W.fnOf "places_of" "places_of" (defArgs s_places_of) (defBody s_places_of) (defScope s_places_of) .none kV doc pm an cdv ct) ⟨us, []⟩ = pure ((["web"] : List Str).zip us) := by obtain ⟨_, _, rfl, h1⟩ := lenS hl; cases len0 h1; rfl
theorem bi_is_want (kV doc pm : Value) (an : Option Addr) (cdv ct : Value) (us : List Value) (hl : us.length = (["web", "places", "note"] : List Str).length) : bindArgs (PySem.W.fnOf "is_want" "is_want" (defArgs s_is_want) (defBody s_is_want) (defScope s_is_want) .none kV doc pm an cdv ct) ⟨us, []⟩ = pure ((["web", "places", "note"] : List Str).zip us) := by obtain ⟨_, _, rfl, h1⟩ := lenS hl; obtain ⟨_, _, rfl, h2⟩ := lenS h1; obtain ⟨_, _, rfl, h3⟩ := lenS h2; cases len0 h3; rfl
theorem bi_hands_of (kV doc pm : Value) (an : Option Addr) (cdv ct : Value) (us : List Value) (hl : us.length = (["note"] : List Str).length) : bindArgs (PySem.W.fnOf "hands_of" "hands_of" (defArgs s_hands_of) (defBody s_hands_of) (defScope s_hands_of) .none kV doc pm an cdv ct) ⟨us, []⟩ = pure ((["note"] : List Str).zip us) := by obtain ⟨_, _, rfl, h1⟩ := lenS hl; cases len0 h1; rfl
theorem bi_apart_shows (kV doc pm : Value) (an : Option Addr) (cdv ct : Value) (us : List Value) (hl : us.length = (["web", "wants"] : List Str).length) : bindArgs (PySem.W.fnOf "apart_shows" "apart_shows" (defArgs s_apart_shows) (defBody s_apart_shows) (defScope s_apart_shows) .none kV doc pm an cdv ct) ⟨us, []⟩ = pure ((["web", "wants"] : List Str).zip us) := by obtain ⟨_, _, rfl, h1⟩ := lenS hl; obtain ⟨_, _, rfl, h2⟩ := lenS h1; cases len0 h2; rfl
theorem bi_Lcalls (kV doc pm : Value) (an : Option Addr) (cdv ct : Value) (us : List Value) (hl : us.length = (["web"] : List Str).length) : bindArgs (PySem.W.fnOf "_law_calls" "_law_calls" (defArgs s_Lcalls) (defBody s_Lcalls) (defScope s_Lcalls) .none kV doc pm an cdv ct) ⟨us, []⟩ = pure ((["web"] : List Str).zip us) := by obtain ⟨_, _, rfl, h1⟩ := lenS hl; cases len0 h1; rfl
theorem bi_Lmeets (kV doc pm : Value) (an : Option Addr) (cdv ct : Value) (us : List Value) (hl : us.length = (["one", "other"] : List Str).length) : bindArgs (PySem.W.fnOf "_law_meets" "_law_meets" (defArgs s_Lmeets) (defBody s_Lmeets) (defScope s_Lmeets) .none kV doc pm an cdv ct) ⟨us, []⟩ = pure ((["one", "other"] : List Str).zip us) := by obtain ⟨_, _, rfl, h1⟩ := lenS hl; obtain ⟨_, _, rfl, h2⟩ := lenS h1; cases len0 h2; rfl
theorem bi_Lapart (kV doc pm : Value) (an : Option Addr) (cdv ct : Value) (us : List Value) (hl : us.length = (["web", "calls", "some"] : List Str).length) : bindArgs (PySem.W.fnOf "_law_apart" "_law_apart" (defArgs s_Lapart) (defBody s_Lapart) (defScope s_Lapart) .none kV doc pm an cdv ct) ⟨us, []⟩ = pure ((["web", "calls", "some"] : List Str).zip us) := by obtain ⟨_, _, rfl, h1⟩ := lenS hl; obtain ⟨_, _, rfl, h2⟩ := lenS h1; obtain ⟨_, _, rfl, h3⟩ := lenS h2; cases len0 h3; rfl
theorem bi_Lwants (kV doc pm : Value) (an : Option Addr) (cdv ct : Value) (us : List Value) (hl : us.length = (["web", "hand", "other"] : List Str).length) : bindArgs (PySem.W.fnOf "_law_wants" "_law_wants" (defArgs s_Lwants) (defBody s_Lwants) (defScope s_Lwants) .none kV doc pm an cdv ct) ⟨us, []⟩ = pure ((["web", "hand", "other"] : List Str).zip us) := by obtain ⟨_, _, rfl, h1⟩ := lenS hl; obtain ⟨_, _, rfl, h2⟩ := lenS h1; obtain ⟨_, _, rfl, h3⟩ := lenS h2; cases len0 h3; rfl
theorem bi_Lfront (kV doc pm : Value) (an : Option Addr) (cdv ct : Value) (us : List Value) (hl : us.length = (["web", "hand", "other"] : List Str).length) : bindArgs (PySem.W.fnOf "_law_front" "_law_front" (defArgs s_Lfront) (defBody s_Lfront) (defScope s_Lfront) .none kV doc pm an cdv ct) ⟨us, []⟩ = pure ((["web", "hand", "other"] : List Str).zip us) := by obtain ⟨_, _, rfl, h1⟩ := lenS hl; obtain ⟨_, _, rfl, h2⟩ := lenS h1; obtain ⟨_, _, rfl, h3⟩ := lenS h2; cases len0 h3; rfl
theorem bi_Lback (kV doc pm : Value) (an : Option Addr) (cdv ct : Value) (us : List Value) (hl : us.length = (["web", "hand", "other"] : List Str).length) : bindArgs (PySem.W.fnOf "_law_back" "_law_back" (defArgs s_Lback) (defBody s_Lback) (defScope s_Lback) .none kV doc pm an cdv ct) ⟨us, []⟩ = pure ((["web", "hand", "other"] : List Str).zip us) := by obtain ⟨_, _, rfl, h1⟩ := lenS hl; obtain ⟨_, _, rfl, h2⟩ := lenS h1; obtain ⟨_, _, rfl, h3⟩ := lenS h2; cases len0 h3; rfl
theorem bi_Lall (kV doc pm : Value) (an : Option Addr) (cdv ct : Value) (us : List Value) (hl : us.length = (["web", "calls", "behind"] : List Str).length) : bindArgs (PySem.W.fnOf "_law_all" "_law_all" (defArgs s_Lall) (defBody s_Lall) (defScope s_Lall) .none kV doc pm an cdv ct) ⟨us, []⟩ = pure ((["web", "calls", "behind"] : List Str).zip us) := by obtain ⟨_, _, rfl, h1⟩ := lenS hl; obtain ⟨_, _, rfl, h2⟩ := lenS h1; obtain ⟨_, _, rfl, h3⟩ := lenS h2; cases len0 h3; rfl
theorem bi_Lpick (kV doc pm : Value) (an : Option Addr) (cdv ct : Value) (us : List Value) (hl : us.length = (["spring", "web", "calls", "only"] : List Str).length) : bindArgs (PySem.W.fnOf "_law_pick" "_law_pick" (defArgs s_Lpick) (defBody s_Lpick) (defScope s_Lpick) .none kV doc pm an cdv ct) ⟨us, []⟩ = pure ((["spring", "web", "calls", "only"] : List Str).zip us) := by obtain ⟨_, _, rfl, h1⟩ := lenS hl; obtain ⟨_, _, rfl, h2⟩ := lenS h1; obtain ⟨_, _, rfl, h3⟩ := lenS h2; obtain ⟨_, _, rfl, h4⟩ := lenS h3; cases len0 h4; rfl
theorem bi_Lstrange (kV doc pm : Value) (an : Option Addr) (cdv ct : Value) (us : List Value) (hl : us.length = (["spring", "note"] : List Str).length) : bindArgs (PySem.W.fnOf "_law_strange" "_law_strange" (defArgs s_Lstrange) (defBody s_Lstrange) (defScope s_Lstrange) .none kV doc pm an cdv ct) ⟨us, []⟩ = pure ((["spring", "note"] : List Str).zip us) := by obtain ⟨_, _, rfl, h1⟩ := lenS hl; obtain ⟨_, _, rfl, h2⟩ := lenS h1; cases len0 h2; rfl
theorem bi_Lfree (kV doc pm : Value) (an : Option Addr) (cdv ct : Value) (us : List Value) (hl : us.length = (["spring", "calls"] : List Str).length) : bindArgs (PySem.W.fnOf "_law_free" "_law_free" (defArgs s_Lfree) (defBody s_Lfree) (defScope s_Lfree) .none kV doc pm an cdv ct) ⟨us, []⟩ = pure ((["spring", "calls"] : List Str).zip us) := by obtain ⟨_, _, rfl, h1⟩ := lenS hl; obtain ⟨_, _, rfl, h2⟩ := lenS h1; cases len0 h2; rfl
theorem bi_Ldealt (kV doc pm : Value) (an : Option Addr) (cdv ct : Value) (us : List Value) (hl : us.length = (["spring", "some", "many"] : List Str).length) : bindArgs (PySem.W.fnOf "_law_dealt" "_law_dealt" (defArgs s_Ldealt) (defBody s_Ldealt) (defScope s_Ldealt) .none kV doc pm an cdv ct) ⟨us, []⟩ = pure ((["spring", "some", "many"] : List Str).zip us) := by obtain ⟨_, _, rfl, h1⟩ := lenS hl; obtain ⟨_, _, rfl, h2⟩ := lenS h1; obtain ⟨_, _, rfl, h3⟩ := lenS h2; cases len0 h3; rfl
theorem bi_Lled (kV doc pm : Value) (an : Option Addr) (cdv ct : Value) (us : List Value) (hl : us.length = (["spring", "calls", "want"] : List Str).length) : bindArgs (PySem.W.fnOf "_law_led" "_law_led" (defArgs s_Lled) (defBody s_Lled) (defScope s_Lled) .none kV doc pm an cdv ct) ⟨us, []⟩ = pure ((["spring", "calls", "want"] : List Str).zip us) := by obtain ⟨_, _, rfl, h1⟩ := lenS hl; obtain ⟨_, _, rfl, h2⟩ := lenS h1; obtain ⟨_, _, rfl, h3⟩ := lenS h2; cases len0 h3; rfl
theorem bi_Lmore (kV doc pm : Value) (an : Option Addr) (cdv ct : Value) (us : List Value) (hl : us.length = (["spring", "web", "calls", "some", "kind"] : List Str).length) : bindArgs (PySem.W.fnOf "_law_more" "_law_more" (defArgs s_Lmore) (defBody s_Lmore) (defScope s_Lmore) .none kV doc pm an cdv ct) ⟨us, []⟩ = pure ((["spring", "web", "calls", "some", "kind"] : List Str).zip us) := by obtain ⟨_, _, rfl, h1⟩ := lenS hl; obtain ⟨_, _, rfl, h2⟩ := lenS h1; obtain ⟨_, _, rfl, h3⟩ := lenS h2; obtain ⟨_, _, rfl, h4⟩ := lenS h3; obtain ⟨_, _, rfl, h5⟩ := lenS h4; cases len0 h5; rfl
theorem bi_Lsome (kV doc pm : Value) (an : Option Addr) (cdv ct : Value) (us : List Value) (hl : us.length = (["spring", "web", "calls", "wants", "kind"] : List Str).length) : bindArgs (PySem.W.fnOf "_law_some" "_law_some" (defArgs s_Lsome) (defBody s_Lsome) (defScope s_Lsome) .none kV doc pm an cdv ct) ⟨us, []⟩ = pure ((["spring", "web", "calls", "wants", "kind"] : List Str).zip us) := by obtain ⟨_, _, rfl, h1⟩ := lenS hl; obtain ⟨_, _, rfl, h2⟩ := lenS h1; obtain ⟨_, _, rfl, h3⟩ := lenS h2; obtain ⟨_, _, rfl, h4⟩ := lenS h3; obtain ⟨_, _, rfl, h5⟩ := lenS h4; cases len0 h5; rfl
theorem all_mk {l : PySem.W.OpenLaw} {w : World} {K : PySem.W.Frag} {h : Heap} {mg : Str → Option Value} {fa p f0 f1 f2 f3 f4 f5 f6 f7 f8 f9 f10 f11 f12 f13 f14 f15 f16 f17 f18 f19 f20 f21 f22 f23 f24 f25 f26 cc11 : Addr} (X : K.In h) (G : h.Ns mainGlobals mg) (hfa : mg "law" = some (.ref fa))
    {od0 an0 od1 an1 od2 an2 od3 an3 od4 an4 od5 an5 od6 an6 od7 an7 od8 an8 od9 an9 od10 an10 od11 an11 od12 an12 od13 an13 od14 an14 od15 an15 od16 an16 od17 an17 od18 an18 od19 an19 od20 an20 od21 an21 od22 an22 od23 an23 od24 an24 od25 an25 od26 an26 : Option Addr} {sl0 sl1 sl2 sl3 sl4 sl5 sl6 sl7 sl8 sl9 sl10 sl11 sl12 sl13 sl14 sl15 sl16 sl17 sl18 sl19 sl20 sl21 sl22 sl23 sl24 sl25 sl26 : Array (Option Value)} {oc0 kV0 dc0 pm0 cd0 ct0 oc1 kV1 dc1 pm1 cd1 ct1 oc2 kV2 dc2 pm2 cd2 ct2 oc3 kV3 dc3 pm3 cd3 ct3 oc4 kV4 dc4 pm4 cd4 ct4 oc5 kV5 dc5 pm5 cd5 ct5 oc6 kV6 dc6 pm6 cd6 ct6 oc7 kV7 dc7 pm7 cd7 ct7 oc8 kV8 dc8 pm8 cd8 ct8 oc9 kV9 dc9 pm9 cd9 ct9 oc10 kV10 dc10 pm10 cd10 ct10 oc11 kV11 dc11 pm11 ct11 oc12 kV12 dc12 pm12 cd12 ct12 oc13 kV13 dc13 pm13 cd13 ct13 oc14 kV14 dc14 pm14 cd14 ct14 oc15 kV15 dc15 pm15 cd15 ct15 oc16 kV16 dc16 pm16 cd16 ct16 oc17 kV17 dc17 pm17 cd17 ct17 oc18 kV18 dc18 pm18 cd18 ct18 oc19 kV19 dc19 pm19 cd19 ct19 oc20 kV20 dc20 pm20 cd20 ct20 oc21 kV21 dc21 pm21 cd21 ct21 oc22 kV22 dc22 pm22 cd22 ct22 oc23 kV23 dc23 pm23 cd23 ct23 oc24 kV24 dc24 pm24 cd24 ct24 oc25 kV25 dc25 pm25 cd25 ct25 oc26 kV26 dc26 pm26 cd26 ct26 : Value}
    (a0 : PySem.W.nsIn K mainGlobals "_law_spring" = some (some (.ref f0))) (l0 : K.lookup f0 = some ⟨oc0, od0, .func (PySem.W.fnOf "_law_spring" "_law_spring" (defArgs s_Lspring) (defBody s_Lspring) (defScope s_Lspring) .none kV0 dc0 pm0 an0 cd0 ct0), sl0⟩) (c0 : PySem.W.codeIn K cd0 "_law_spring" = true) (k0 : PySem.W.keepIn K (.ref f0) = true)
    (a1 : PySem.W.nsIn K mainGlobals "_law_draw" = some (some (.ref f1))) (l1 : K.lookup f1 = some ⟨oc1, od1, .func (PySem.W.fnOf "_law_draw" "_law_draw" (defArgs s_Ldraw) (defBody s_Ldraw) (defScope s_Ldraw) .none kV1 dc1 pm1 an1 cd1 ct1), sl1⟩) (c1 : PySem.W.codeIn K cd1 "_law_draw" = true) (k1 : PySem.W.keepIn K (.ref f1) = true)
    (a2 : PySem.W.nsIn K mainGlobals "_law_web" = some (some (.ref f2))) (l2 : K.lookup f2 = some ⟨oc2, od2, .func (PySem.W.fnOf "_law_web" "_law_web" (defArgs s_Lweb) (defBody s_Lweb) (defScope s_Lweb) .none kV2 dc2 pm2 an2 cd2 ct2), sl2⟩) (c2 : PySem.W.codeIn K cd2 "_law_web" = true) (k2 : PySem.W.keepIn K (.ref f2) = true)
    (a3 : PySem.W.nsIn K mainGlobals "is_whole" = some (some (.ref f3))) (l3 : K.lookup f3 = some ⟨oc3, od3, .func (PySem.W.fnOf "is_whole" "is_whole" (defArgs s_is_whole) (defBody s_is_whole) (defScope s_is_whole) .none kV3 dc3 pm3 an3 cd3 ct3), sl3⟩) (c3 : PySem.W.codeIn K cd3 "is_whole" = true) (k3 : PySem.W.keepIn K (.ref f3) = true)
    (a4 : PySem.W.nsIn K mainGlobals "names" = some (some (.ref f4))) (l4 : K.lookup f4 = some ⟨oc4, od4, .func (PySem.W.fnOf "names" "names" (defArgs s_names) (defBody s_names) (defScope s_names) .none kV4 dc4 pm4 an4 cd4 ct4), sl4⟩) (c4 : PySem.W.codeIn K cd4 "names" = true) (k4 : PySem.W.keepIn K (.ref f4) = true)
    (a5 : PySem.W.nsIn K mainGlobals "touches_meet" = some (some (.ref f5))) (l5 : K.lookup f5 = some ⟨oc5, od5, .func (PySem.W.fnOf "touches_meet" "touches_meet" (defArgs s_touches_meet) (defBody s_touches_meet) (defScope s_touches_meet) .none kV5 dc5 pm5 an5 cd5 ct5), sl5⟩) (c5 : PySem.W.codeIn K cd5 "touches_meet" = true) (k5 : PySem.W.keepIn K (.ref f5) = true)
    (a6 : PySem.W.nsIn K mainGlobals "is_note" = some (some (.ref f6))) (l6 : K.lookup f6 = some ⟨oc6, od6, .func (PySem.W.fnOf "is_note" "is_note" (defArgs s_is_note) (defBody s_is_note) (defScope s_is_note) .none kV6 dc6 pm6 an6 cd6 ct6), sl6⟩) (c6 : PySem.W.codeIn K cd6 "is_note" = true) (k6 : PySem.W.keepIn K (.ref f6) = true)
    (a7 : PySem.W.nsIn K mainGlobals "is_strict" = some (some (.ref f7))) (l7 : K.lookup f7 = some ⟨oc7, od7, .func (PySem.W.fnOf "is_strict" "is_strict" (defArgs s_is_strict) (defBody s_is_strict) (defScope s_is_strict) .none kV7 dc7 pm7 an7 cd7 ct7), sl7⟩) (c7 : PySem.W.codeIn K cd7 "is_strict" = true) (k7 : PySem.W.keepIn K (.ref f7) = true)
    (a8 : PySem.W.nsIn K mainGlobals "places_of" = some (some (.ref f8))) (l8 : K.lookup f8 = some ⟨oc8, od8, .func (PySem.W.fnOf "places_of" "places_of" (defArgs s_places_of) (defBody s_places_of) (defScope s_places_of) .none kV8 dc8 pm8 an8 cd8 ct8), sl8⟩) (c8 : PySem.W.codeIn K cd8 "places_of" = true) (k8 : PySem.W.keepIn K (.ref f8) = true)
    (a9 : PySem.W.nsIn K mainGlobals "is_want" = some (some (.ref f9))) (l9 : K.lookup f9 = some ⟨oc9, od9, .func (PySem.W.fnOf "is_want" "is_want" (defArgs s_is_want) (defBody s_is_want) (defScope s_is_want) .none kV9 dc9 pm9 an9 cd9 ct9), sl9⟩) (c9 : PySem.W.codeIn K cd9 "is_want" = true) (k9 : PySem.W.keepIn K (.ref f9) = true)
    (a10 : PySem.W.nsIn K mainGlobals "hands_of" = some (some (.ref f10))) (l10 : K.lookup f10 = some ⟨oc10, od10, .func (PySem.W.fnOf "hands_of" "hands_of" (defArgs s_hands_of) (defBody s_hands_of) (defScope s_hands_of) .none kV10 dc10 pm10 an10 cd10 ct10), sl10⟩) (c10 : PySem.W.codeIn K cd10 "hands_of" = true) (k10 : PySem.W.keepIn K (.ref f10) = true)
    (a11 : PySem.W.nsIn K mainGlobals "apart_shows" = some (some (.ref f11))) (l11 : K.lookup f11 = some ⟨oc11, od11, .func (PySem.W.fnOf "apart_shows" "apart_shows" (defArgs s_apart_shows) (defBody s_apart_shows) (defScope s_apart_shows) .none kV11 dc11 pm11 an11 (.ref cc11) ct11), sl11⟩) (c11 : PySem.W.codeIn K (.ref cc11) "apart_shows" = true) (k11 : PySem.W.keepIn K (.ref f11) = true) (h11 : PySem.W.codeHdIn K cc11 p = true) (hkp : K.lookup p = none)
    (a12 : PySem.W.nsIn K mainGlobals "_law_calls" = some (some (.ref f12))) (l12 : K.lookup f12 = some ⟨oc12, od12, .func (PySem.W.fnOf "_law_calls" "_law_calls" (defArgs s_Lcalls) (defBody s_Lcalls) (defScope s_Lcalls) .none kV12 dc12 pm12 an12 cd12 ct12), sl12⟩) (c12 : PySem.W.codeIn K cd12 "_law_calls" = true) (k12 : PySem.W.keepIn K (.ref f12) = true)
    (a13 : PySem.W.nsIn K mainGlobals "_law_meets" = some (some (.ref f13))) (l13 : K.lookup f13 = some ⟨oc13, od13, .func (PySem.W.fnOf "_law_meets" "_law_meets" (defArgs s_Lmeets) (defBody s_Lmeets) (defScope s_Lmeets) .none kV13 dc13 pm13 an13 cd13 ct13), sl13⟩) (c13 : PySem.W.codeIn K cd13 "_law_meets" = true) (k13 : PySem.W.keepIn K (.ref f13) = true)
    (a14 : PySem.W.nsIn K mainGlobals "_law_apart" = some (some (.ref f14))) (l14 : K.lookup f14 = some ⟨oc14, od14, .func (PySem.W.fnOf "_law_apart" "_law_apart" (defArgs s_Lapart) (defBody s_Lapart) (defScope s_Lapart) .none kV14 dc14 pm14 an14 cd14 ct14), sl14⟩) (c14 : PySem.W.codeIn K cd14 "_law_apart" = true) (k14 : PySem.W.keepIn K (.ref f14) = true)
    (a15 : PySem.W.nsIn K mainGlobals "_law_wants" = some (some (.ref f15))) (l15 : K.lookup f15 = some ⟨oc15, od15, .func (PySem.W.fnOf "_law_wants" "_law_wants" (defArgs s_Lwants) (defBody s_Lwants) (defScope s_Lwants) .none kV15 dc15 pm15 an15 cd15 ct15), sl15⟩) (c15 : PySem.W.codeIn K cd15 "_law_wants" = true) (k15 : PySem.W.keepIn K (.ref f15) = true)
    (a16 : PySem.W.nsIn K mainGlobals "_law_front" = some (some (.ref f16))) (l16 : K.lookup f16 = some ⟨oc16, od16, .func (PySem.W.fnOf "_law_front" "_law_front" (defArgs s_Lfront) (defBody s_Lfront) (defScope s_Lfront) .none kV16 dc16 pm16 an16 cd16 ct16), sl16⟩) (c16 : PySem.W.codeIn K cd16 "_law_front" = true) (k16 : PySem.W.keepIn K (.ref f16) = true)
    (a17 : PySem.W.nsIn K mainGlobals "_law_back" = some (some (.ref f17))) (l17 : K.lookup f17 = some ⟨oc17, od17, .func (PySem.W.fnOf "_law_back" "_law_back" (defArgs s_Lback) (defBody s_Lback) (defScope s_Lback) .none kV17 dc17 pm17 an17 cd17 ct17), sl17⟩) (c17 : PySem.W.codeIn K cd17 "_law_back" = true) (k17 : PySem.W.keepIn K (.ref f17) = true)
    (a18 : PySem.W.nsIn K mainGlobals "_law_all" = some (some (.ref f18))) (l18 : K.lookup f18 = some ⟨oc18, od18, .func (PySem.W.fnOf "_law_all" "_law_all" (defArgs s_Lall) (defBody s_Lall) (defScope s_Lall) .none kV18 dc18 pm18 an18 cd18 ct18), sl18⟩) (c18 : PySem.W.codeIn K cd18 "_law_all" = true) (k18 : PySem.W.keepIn K (.ref f18) = true)
    (a19 : PySem.W.nsIn K mainGlobals "_law_pick" = some (some (.ref f19))) (l19 : K.lookup f19 = some ⟨oc19, od19, .func (PySem.W.fnOf "_law_pick" "_law_pick" (defArgs s_Lpick) (defBody s_Lpick) (defScope s_Lpick) .none kV19 dc19 pm19 an19 cd19 ct19), sl19⟩) (c19 : PySem.W.codeIn K cd19 "_law_pick" = true) (k19 : PySem.W.keepIn K (.ref f19) = true)
    (a20 : PySem.W.nsIn K mainGlobals "_law_strange" = some (some (.ref f20))) (l20 : K.lookup f20 = some ⟨oc20, od20, .func (PySem.W.fnOf "_law_strange" "_law_strange" (defArgs s_Lstrange) (defBody s_Lstrange) (defScope s_Lstrange) .none kV20 dc20 pm20 an20 cd20 ct20), sl20⟩) (c20 : PySem.W.codeIn K cd20 "_law_strange" = true) (k20 : PySem.W.keepIn K (.ref f20) = true)
    (a21 : PySem.W.nsIn K mainGlobals "_law_free" = some (some (.ref f21))) (l21 : K.lookup f21 = some ⟨oc21, od21, .func (PySem.W.fnOf "_law_free" "_law_free" (defArgs s_Lfree) (defBody s_Lfree) (defScope s_Lfree) .none kV21 dc21 pm21 an21 cd21 ct21), sl21⟩) (c21 : PySem.W.codeIn K cd21 "_law_free" = true) (k21 : PySem.W.keepIn K (.ref f21) = true)
    (a22 : PySem.W.nsIn K mainGlobals "_law_dealt" = some (some (.ref f22))) (l22 : K.lookup f22 = some ⟨oc22, od22, .func (PySem.W.fnOf "_law_dealt" "_law_dealt" (defArgs s_Ldealt) (defBody s_Ldealt) (defScope s_Ldealt) .none kV22 dc22 pm22 an22 cd22 ct22), sl22⟩) (c22 : PySem.W.codeIn K cd22 "_law_dealt" = true) (k22 : PySem.W.keepIn K (.ref f22) = true)
    (a23 : PySem.W.nsIn K mainGlobals "_law_led" = some (some (.ref f23))) (l23 : K.lookup f23 = some ⟨oc23, od23, .func (PySem.W.fnOf "_law_led" "_law_led" (defArgs s_Lled) (defBody s_Lled) (defScope s_Lled) .none kV23 dc23 pm23 an23 cd23 ct23), sl23⟩) (c23 : PySem.W.codeIn K cd23 "_law_led" = true) (k23 : PySem.W.keepIn K (.ref f23) = true)
    (a24 : PySem.W.nsIn K mainGlobals "_law_more" = some (some (.ref f24))) (l24 : K.lookup f24 = some ⟨oc24, od24, .func (PySem.W.fnOf "_law_more" "_law_more" (defArgs s_Lmore) (defBody s_Lmore) (defScope s_Lmore) .none kV24 dc24 pm24 an24 cd24 ct24), sl24⟩) (c24 : PySem.W.codeIn K cd24 "_law_more" = true) (k24 : PySem.W.keepIn K (.ref f24) = true)
    (a25 : PySem.W.nsIn K mainGlobals "_law_some" = some (some (.ref f25))) (l25 : K.lookup f25 = some ⟨oc25, od25, .func (PySem.W.fnOf "_law_some" "_law_some" (defArgs s_Lsome) (defBody s_Lsome) (defScope s_Lsome) .none kV25 dc25 pm25 an25 cd25 ct25), sl25⟩) (c25 : PySem.W.codeIn K cd25 "_law_some" = true) (k25 : PySem.W.keepIn K (.ref f25) = true)
    (a26 : PySem.W.nsIn K mainGlobals "law" = some (some (.ref f26))) (l26 : K.lookup f26 = some ⟨oc26, od26, .func (PySem.W.fnOf "law" "law" (defArgs s_law) (defBody s_law) (defScope s_law) .none kV26 dc26 pm26 an26 cd26 ct26), sl26⟩) (c26 : PySem.W.codeIn K cd26 "law" = true) (k26 : PySem.W.keepIn K (.ref f26) = true)
    (z_abs : PySem.W.nsIn K mainGlobals "abs" = some none) (z_all : PySem.W.nsIn K mainGlobals "all" = some none) (z_bool : PySem.W.nsIn K mainGlobals "bool" = some none) (z_enumerate : PySem.W.nsIn K mainGlobals "enumerate" = some none) (z_int : PySem.W.nsIn K mainGlobals "int" = some none) (z_isinstance : PySem.W.nsIn K mainGlobals "isinstance" = some none) (z_len : PySem.W.nsIn K mainGlobals "len" = some none) (z_list : PySem.W.nsIn K mainGlobals "list" = some none) (z_max : PySem.W.nsIn K mainGlobals "max" = some none) (z_min : PySem.W.nsIn K mainGlobals "min" = some none) (z_range : PySem.W.nsIn K mainGlobals "range" = some none) (z_reversed : PySem.W.nsIn K mainGlobals "reversed" = some none) (z_sorted : PySem.W.nsIn K mainGlobals "sorted" = some none) (z_tuple : PySem.W.nsIn K mainGlobals "tuple" = some none) (z_zip : PySem.W.nsIn K mainGlobals "zip" = some none) :
    (K.lookup p = none ∧ ∃ c, PySem.W.codeHdIn K c p = true) ∧ ∃ fd : FuncData, (∀ (s : Shared) (v : Value), BindsTo s fd ⟨[v], []⟩ [("script", v)]) ∧ ∀ base : Heap, K.In base → base.Ns mainGlobals mg → Bm mg base → FnOk l.prog w K mg base CX0 6 fa fd ["script"] (spLaw p K) := by
  have e := hfa.symm.trans (PySem.W.mg_of X G a26)
  cases e
  have Bt : Blt mg := ⟨PySem.W.mg_none_of X G z_abs, PySem.W.mg_none_of X G z_all, PySem.W.mg_none_of X G z_bool, PySem.W.mg_none_of X G z_enumerate, PySem.W.mg_none_of X G z_int, PySem.W.mg_none_of X G z_isinstance, PySem.W.mg_none_of X G z_len, PySem.W.mg_none_of X G z_list, PySem.W.mg_none_of X G z_max, PySem.W.mg_none_of X G z_min, PySem.W.mg_none_of X G z_range, PySem.W.mg_none_of X G z_reversed, PySem.W.mg_none_of X G z_sorted, PySem.W.mg_none_of X G z_tuple, PySem.W.mg_none_of X G z_zip⟩
  have F0 := fun_mk (st := s_Lspring) l0 c0 k0
  have F1 := fun_mk (st := s_Ldraw) l1 c1 k1
  have F2 := fun_mk (st := s_Lweb) l2 c2 k2
  have F3 := fun_mk (st := s_is_whole) l3 c3 k3
  have F4 := fun_mk (st := s_names) l4 c4 k4
  have F5 := fun_mk (st := s_touches_meet) l5 c5 k5
  have F6 := fun_mk (st := s_is_note) l6 c6 k6
  have F7 := fun_mk (st := s_is_strict) l7 c7 k7
  have F8 := fun_mk (st := s_places_of) l8 c8 k8
  have F9 := fun_mk (st := s_is_want) l9 c9 k9
  have F10 := fun_mk (st := s_hands_of) l10 c10 k10
  have L11 := funL_mk (st := s_apart_shows) l11 c11 k11 h11
  have F11 := L11.fun
  have F12 := fun_mk (st := s_Lcalls) l12 c12 k12
  have F13 := fun_mk (st := s_Lmeets) l13 c13 k13
  have F14 := fun_mk (st := s_Lapart) l14 c14 k14
  have F15 := fun_mk (st := s_Lwants) l15 c15 k15
  have F16 := fun_mk (st := s_Lfront) l16 c16 k16
  have F17 := fun_mk (st := s_Lback) l17 c17 k17
  have F18 := fun_mk (st := s_Lall) l18 c18 k18
  have F19 := fun_mk (st := s_Lpick) l19 c19 k19
  have F20 := fun_mk (st := s_Lstrange) l20 c20 k20
  have F21 := fun_mk (st := s_Lfree) l21 c21 k21
  have F22 := fun_mk (st := s_Ldealt) l22 c22 k22
  have F23 := fun_mk (st := s_Lled) l23 c23 k23
  have F24 := fun_mk (st := s_Lmore) l24 c24 k24
  have F25 := fun_mk (st := s_Lsome) l25 c25 k25
  have F26 := fun_mk (st := s_law) l26 c26 k26
  refine ⟨⟨hkp, _, h11⟩, ?_⟩
  refine ⟨PySem.W.fnOf "law" "law" (defArgs s_law) (defBody s_law) (defScope s_law) .none kV26 dc26 pm26 an26 cd26 ct26, fun s v => .of_eq rfl, fun base _ _ BM => ?_⟩
  have A0 : FnAt l.prog w K mg base 1 "_law_spring" ["script"] (spSpring K) := ⟨f0, _, ok_spring F0 Bt, PySem.W.mg_of X G a0, k0, F0.binds (ps := ["script"]) bi_Lspring⟩
  have A1 : FnAt l.prog w K mg base 1 "_law_draw" ["spring", "many"] (spDraw K) := ⟨f1, _, ok_draw F1 , PySem.W.mg_of X G a1, k1, F1.binds (ps := ["spring", "many"]) bi_Ldraw⟩
  have A2 : FnAt l.prog w K mg base 2 "_law_web" ["spring", "most"] (spWeb K) := ⟨f2, _, ok_web F2 A1 Bt, PySem.W.mg_of X G a2, k2, F2.binds (ps := ["spring", "most"]) bi_Lweb⟩
  have A3 : FnAt l.prog w K mg base 1 "is_whole" ["value"] (spWh K) := ⟨f3, _, ok_is_whole F3 Bt, PySem.W.mg_of X G a3, k3, F3.binds (ps := ["value"]) bi_is_whole⟩
  have A4 : FnAt l.prog w K mg base 1 "names" ["web"] (spNames K) := ⟨f4, _, ok_names F4 , PySem.W.mg_of X G a4, k4, F4.binds (ps := ["web"]) bi_names⟩
  have A5 : FnAt l.prog w K mg base 1 "touches_meet" ["one", "other"] (spMt K) := ⟨f5, _, ok_touches_meet F5 , PySem.W.mg_of X G a5, k5, F5.binds (ps := ["one", "other"]) bi_touches_meet⟩
  have A6 : FnAt l.prog w K mg base 2 "is_note" ["value"] (spIsNote K) := ⟨f6, _, ok_is_note F6 A3 Bt, PySem.W.mg_of X G a6, k6, F6.binds (ps := ["value"]) bi_is_note⟩
  have A7 : FnAt l.prog w K mg base 3 "is_strict" ["places", "note"] (spStrict K) := ⟨f7, _, ok_strict F7 A6, PySem.W.mg_of X G a7, k7, F7.binds (ps := ["places", "note"]) bi_is_strict⟩
  have A8 : FnAt l.prog w K mg base 2 "places_of" ["web"] (spPlaces K) := ⟨f8, _, ok_places F8 A4 Bt, PySem.W.mg_of X G a8, k8, F8.binds (ps := ["web"]) bi_places_of⟩
  have A9 : FnAt l.prog w K mg base 4 "is_want" ["web", "places", "note"] (spIsWant K) := ⟨f9, _, ok_isWant F9 A7 A5, PySem.W.mg_of X G a9, k9, F9.binds (ps := ["web", "places", "note"]) bi_is_want⟩
  have A10 : FnAt l.prog w K mg base 1 "hands_of" ["note"] (spHandsOf K) := ⟨f10, _, ok_handsOf F10 , PySem.W.mg_of X G a10, k10, F10.binds (ps := ["note"]) bi_hands_of⟩
  have A11 : FnAt l.prog w K mg base 5 "apart_shows" ["web", "wants"] (spApS p K) := ⟨f11, _, ok_apS L11 A8 A9 A10 BM Bt, PySem.W.mg_of X G a11, k11, F11.binds (ps := ["web", "wants"]) bi_apart_shows⟩
  have A12 : FnAt l.prog w K mg base 1 "_law_calls" ["web"] (spCalls K) := ⟨f12, _, ok_calls F12 Bt, PySem.W.mg_of X G a12, k12, F12.binds (ps := ["web"]) bi_Lcalls⟩
  have A13 : FnAt l.prog w K mg base 1 "_law_meets" ["one", "other"] (spMt K) := ⟨f13, _, ok_Lmeets F13 , PySem.W.mg_of X G a13, k13, F13.binds (ps := ["one", "other"]) bi_Lmeets⟩
  have A14 : FnAt l.prog w K mg base 2 "_law_apart" ["web", "calls", "some"] (spLap K) := ⟨f14, _, ok_Lap F14 A13 Bt, PySem.W.mg_of X G a14, k14, F14.binds (ps := ["web", "calls", "some"]) bi_Lapart⟩
  have A15 : FnAt l.prog w K mg base 2 "_law_wants" ["web", "hand", "other"] (spLwants K) := ⟨f15, _, ok_Lwants F15 A13 Bt, PySem.W.mg_of X G a15, k15, F15.binds (ps := ["web", "hand", "other"]) bi_Lwants⟩
  have A16 : FnAt l.prog w K mg base 3 "_law_front" ["web", "hand", "other"] (spF32 K) := ⟨f16, _, ok_F32 F16 A15 Bt, PySem.W.mg_of X G a16, k16, F16.binds (ps := ["web", "hand", "other"]) bi_Lfront⟩
  have A17 : FnAt l.prog w K mg base 3 "_law_back" ["web", "hand", "other"] (spB32 K) := ⟨f17, _, ok_B32 F17 A15 Bt, PySem.W.mg_of X G a17, k17, F17.binds (ps := ["web", "hand", "other"]) bi_Lback⟩
  have A18 : FnAt l.prog w K mg base 4 "_law_all" ["web", "calls", "behind"] (sp32A K) := ⟨f18, _, ok_32A F18 A17 A16 Bt, PySem.W.mg_of X G a18, k18, F18.binds (ps := ["web", "calls", "behind"]) bi_Lall⟩
  have A19 : FnAt l.prog w K mg base 2 "_law_pick" ["spring", "web", "calls", "only"] (spPick K) := ⟨f19, _, ok_pick F19 A1 A13 Bt, PySem.W.mg_of X G a19, k19, F19.binds (ps := ["spring", "web", "calls", "only"]) bi_Lpick⟩
  have A20 : FnAt l.prog w K mg base 2 "_law_strange" ["spring", "note"] (spStrange K) := ⟨f20, _, ok_strange F20 A1, PySem.W.mg_of X G a20, k20, F20.binds (ps := ["spring", "note"]) bi_Lstrange⟩
  have A21 : FnAt l.prog w K mg base 2 "_law_free" ["spring", "calls"] (spFree K) := ⟨f21, _, ok_free F21 A1 Bt, PySem.W.mg_of X G a21, k21, F21.binds (ps := ["spring", "calls"]) bi_Lfree⟩
  have A22 : FnAt l.prog w K mg base 2 "_law_dealt" ["spring", "some", "many"] (sp32D K) := ⟨f22, _, ok_32D F22 A1 Bt, PySem.W.mg_of X G a22, k22, F22.binds (ps := ["spring", "some", "many"]) bi_Ldealt⟩
  have A23 : FnAt l.prog w K mg base 2 "_law_led" ["spring", "calls", "want"] (sp32L K) := ⟨f23, _, ok_32L F23 A1 Bt, PySem.W.mg_of X G a23, k23, F23.binds (ps := ["spring", "calls", "want"]) bi_Lled⟩
  have A24 : FnAt l.prog w K mg base 3 "_law_more" ["spring", "web", "calls", "some", "kind"] (sp32M K) := ⟨f24, _, ok_32M F24 A1 A19 A21 Bt, PySem.W.mg_of X G a24, k24, F24.binds (ps := ["spring", "web", "calls", "some", "kind"]) bi_Lmore⟩
  have A25 : FnAt l.prog w K mg base 4 "_law_some" ["spring", "web", "calls", "wants", "kind"] (sp32S K) := ⟨f25, _, ok_32S F25 A1 A22 A19 A24 A23 A20 Bt, PySem.W.mg_of X G a25, k25, F25.binds (ps := ["spring", "web", "calls", "wants", "kind"]) bi_Lsome⟩
  exact ok_law F26 A0 A1 A2 A12 A18 A25 A11 A14 Bt
theorem walk {l : PySem.W.OpenLaw} {p : Addr} {q : Program} {loose : List Str} {XP : (Str → Option Value) → Heap → Prop} {YP : World → Heap → Prop} {d : DefRec} {K : Params → PySem.W.Frag} (hn : l.most = some 63) (hdf : d.params.defaults = [])
    (hY : ∀ (w : World) (h : Heap), YP w h → (K w.params).In h) (hT : ∀ (w : World) (h : Heap), YP w h → h.get? p = some (PySem.W.tabObj #[]))
    (F : ∀ (w : World) (mg : Str → Option Value) (fa : Addr) (h : Heap), (K w.params).In h → h.Ns mainGlobals mg → mg d.name = some (.ref fa) →
      ((K w.params).lookup p = none ∧ ∃ c, PySem.W.codeHdIn (K w.params) c p = true) ∧ ∃ fd : FuncData, (∀ (s : Shared) (u : Value), BindsTo s fd ⟨[u], []⟩ [("script", u)]) ∧ ∀ base : Heap, (K w.params).In base → base.Ns mainGlobals mg → Bm mg base → FnOk l.prog w (K w.params) mg base CX0 6 fa fd ["script"] (spLaw p (K w.params))) :
    PySem.W.WalkO q loose XP YP l.row.toRowW d [] (fun f vs => PySem.call f vs) :=
  L2.walk_ofL (n := 63) (k := 6) (x := "script") (CX := fun _ => CX0) (sp := fun w => spLaw p (K w.params)) hn (by decide) hdf ⟨rfl, by decide, by decide⟩ hY hT F (fun _ _ a ns hl _ hS hH => ⟨a, ns, rfl, hS, hl, hH, fun _ => rfl⟩) fun _ _ _ _ _ z => z
end Prf
namespace PySem.W.Fast
def tw12378157979443371830 := ()
def tw4730183210927692070 := ()
def tw6826677640729103731 := ()
def tw14532370618760522882 := ()
def tw2015452292201046974 := ()
def tw16032929656961568088 := ()
def tw5633828841834172925 := ()
def tw16792971854102755568 := ()
def tw80396423135460781 := ()
def tw16867158536559799221 := ()
def tw18386169707595395902 := ()
def tw4682684973655663876 := ()
def tw9942153906386747304 := ()
def tw8663994855566771708 := ()
def tw4908914595522147173 := ()
def tw7900617579532752651 := ()
def tw4025711221257412704 := ()
def tw7290835621258679614 := ()
def tw667417792381968048 := ()
def tw1690317931154613549 := ()
def tw8798093144914467272 := ()
def tw15080325496028072230 := ()
def tw1481840562554615052 := ()
def tw5119469393793401555 := ()
def tw12616304603642166133 := ()
def tw8320087916444194020 := ()
def tw13279264935992914930 := ()
def tw12587790567920769509 := ()
def tw9520228078798579352 := ()
def tw2418875837178647028 := ()
def tw5051738203627682555 := ()
def tw6735196323543295885 := ()
def tw18403588093883333899 := ()
def tw4151489457416945057 := ()
def tw8749421679509417224 := ()
def tw7648287927252906077 := ()
def tw3505819847737722219 := ()
def tw10595723772855132098 := ()
def tw5786252409629498550 := ()
def tw89534233964523671 := ()
def tw5117828642930749133 := ()
def tw8134307988756892491 := ()
def tw14275091050259324287 := ()
def tw720622353511792279 := ()
def tw2774145448825229570 := ()
def tw2403676982217736752 := ()
def tw5745770672717508206 := ()
def tw10228436147332177177 := ()
def tw15321059457454857982 := ()
def tw6100969172761418649 := ()
def tw6385364218473614340 := ()
def tw3165946028197473146 := ()
def tw3318696914246436491 := ()
def tw4877192466625316206 := ()
def tw6641458142693389060 := ()
def tw13090953374855963504 := ()
def tw16226011789815095282 := ()
def tw1930794052640021422 := ()
def tw9079578087959315431 := ()
def tw11988875852047087465 := ()
def tw772407859961491617 := ()
def tw13580631911484305994 := ()
def tw15782462519442627030 := ()
def tw1389119796891098925 := ()
def tw9855101074146803153 := ()
def tw16711680931991608168 := ()
def tw16000142950471708906 := ()
def tw17351347181652050044 := ()
def tw7062916358388661764 := ()
def tw3124382325424088453 := ()
def tw468329859488316486 := ()
def tw2053474660670782339 := ()
def tw7605872702962098561 := ()
def tw13804590831302225461 := ()
def tw3057764150053915529 := ()
def tw6556279634811707000 := ()
def tw5898325929917768032 := ()
def tw6450299953629683790 := ()
def tw5655204444970822834 := ()
def tw11545904041996696012 := ()
def tw16135793474310302674 := ()
def tw11868352141337566856 := ()
def tw10502224614735241812 := ()
def tw11701706364536058795 := ()
def tw3996619345924153697 := ()
def tw6551124283027540481 := ()
def tw4309056743845915912 := ()
def tw7352305735874040215 := ()
def tw2447049169113414629 := ()
def tw5862386638877775869 := ()
def tw6731878874458275620 := ()
def tw5588717668864146450 := ()
def tw11440258003812103857 := ()
def tw12562524503256952892 := ()
def tw5750121845363876442 := ()
def tw393892666524514379 := ()
def tw4355554902112570147 := ()
def tw847828997645518361 := ()
def tw13500549479314362672 := ()
def tw1481331343346982297 := ()
def tw14673443550171686078 := ()
def tw16977137026598500685 := ()
def tw4108194833271528096 := ()
def tw11618056077039702462 := ()
def tw14649072974509898438 := ()
def tw10379611128013955177 := ()
def tw17836395692598801423 := ()
def tw1095038406081639329 := ()
def tw3397275140942220114 := ()
def tw10593336398347537992 := ()
def tw18372421669657280638 := ()
def tw7744946079534341012 := ()
def tw9906454687758640566 := ()
def tw9209297864001397774 := ()
def tw16095570940657366141 := ()
def tw16843049771167051844 := ()
def tw16270237737949984933 := ()
def tw13541960796027880586 := ()
def tw9934764633374843096 := ()
def tw13611356863636865192 := ()
def tw17883509500535194169 := ()
def tw12353190029870622258 := ()
def tw3097081623104095223 := ()
def tw1265119266244835326 := ()
def tw3881243361751787471 := ()
def tw7085700625303984561 := ()
def tw6835402811584017571 := ()
def tw974321613602572654 := ()
def tw2187740699385926333 := ()
def tw12264429642537529255 := ()
def tw6666763416328324743 := ()
def tw1424599439486530678 := ()
def tw4555107880532013935 := ()
def tw8285747611620099728 := ()
def tw7300038495859957422 := ()
def tw3424118066127620501 := ()
def tw15323437262232239776 := ()
def tw14620973757037716206 := ()
def tw6504568820974086677 := ()
def tw5250184730029708876 := ()
def tw4623928651178173043 := ()
def tw13959982460277733062 := ()
def tw17521817887298062683 := ()
def tw5852523535405814167 := ()
def tw7926843737321320675 := ()
def tw17654886762259859729 := ()
def tw17922134271882473977 := ()
def tw18392791136675993020 := ()
def tw3340974672292464569 := ()
def tw15947233902102850894 := ()
def tw11431666571112636323 := ()
def tw18001889882040216996 := ()
def tw3522751355578294709 := ()
def tw18308654135202902453 := ()
def tw6708101679668634406 := ()
def tw5111332748998520656 := ()
def tw2769576909721430689 := ()
def tw7050622715880165443 := ()
end PySem.W.Fast
open PySem PySem.W PyProof.Rows
set_option maxRecDepth 100000 in
set_option maxHeartbeats 0 in
theorem PySem.Challenge.cw_fewnotes_k32_wants_apart_judged_holds : PySem.Challenge.rw_fewnotes_k32_wants_apart_judged.Holds := by
  w_on; o_law; k_head; (case hw => w_witness2)
  k_fill
  refine Prf.walk (l := PySem.Challenge.rw_fewnotes_k32_wants_apart_judged) rfl rfl (fun w h Y => PySem.W.km_in_of Y) (fun w h Y => PySem.W.km_tabs_of Y _ (List.Mem.head _)) ?F
  case F =>
    intro w mg fa h KX G hmg
    replace hmg : mg (Str.ofString "law") = some (.ref fa) := hmg
    refine' Prf.all_mk KX G hmg ?a0 ?l0 ?c0 ?k0 ?a1 ?l1 ?c1 ?k1 ?a2 ?l2 ?c2 ?k2 ?a3 ?l3 ?c3 ?k3 ?a4 ?l4 ?c4 ?k4 ?a5 ?l5 ?c5 ?k5 ?a6 ?l6 ?c6 ?k6 ?a7 ?l7 ?c7 ?k7 ?a8 ?l8 ?c8 ?k8 ?a9 ?l9 ?c9 ?k9 ?a10 ?l10 ?c10 ?k10 ?a11 ?l11 ?c11 ?k11 ?h11 ?hkp ?a12 ?l12 ?c12 ?k12 ?a13 ?l13 ?c13 ?k13 ?a14 ?l14 ?c14 ?k14 ?a15 ?l15 ?c15 ?k15 ?a16 ?l16 ?c16 ?k16 ?a17 ?l17 ?c17 ?k17 ?a18 ?l18 ?c18 ?k18 ?a19 ?l19 ?c19 ?k19 ?a20 ?l20 ?c20 ?k20 ?a21 ?l21 ?c21 ?k21 ?a22 ?l22 ?c22 ?k22 ?a23 ?l23 ?c23 ?k23 ?a24 ?l24 ?c24 ?k24 ?a25 ?l25 ?c25 ?k25 ?a26 ?l26 ?c26 ?k26 ?z_abs ?z_all ?z_bool ?z_enumerate ?z_int ?z_isinstance ?z_len ?z_list ?z_max ?z_min ?z_range ?z_reversed ?z_sorted ?z_tuple ?z_zip
    (case a0 => k_is)
    (case l0 => k_is)
    (case c0 => k_is)
    (case k0 => k_is)
    (case a1 => k_is)
    (case l1 => k_is)
    (case c1 => k_is)
    (case k1 => k_is)
    (case a2 => k_is)
    (case l2 => k_is)
    (case c2 => k_is)
    (case k2 => k_is)
    (case a3 => k_is)
    (case l3 => k_is)
    (case c3 => k_is)
    (case k3 => k_is)
    (case a4 => k_is)
    (case l4 => k_is)
    (case c4 => k_is)
    (case k4 => k_is)
    (case a5 => k_is)
    (case l5 => k_is)
    (case c5 => k_is)
    (case k5 => k_is)
    (case a6 => k_is)
    (case l6 => k_is)
    (case c6 => k_is)
    (case k6 => k_is)
    (case a7 => k_is)
    (case l7 => k_is)
    (case c7 => k_is)
    (case k7 => k_is)
    (case a8 => k_is)
    (case l8 => k_is)
    (case c8 => k_is)
    (case k8 => k_is)
    (case a9 => k_is)
    (case l9 => k_is)
    (case c9 => k_is)
    (case k9 => k_is)
    (case a10 => k_is)
    (case l10 => k_is)
    (case c10 => k_is)
    (case k10 => k_is)
    (case a11 => k_is)
    (case l11 => k_is)
    (case c11 => k_is)
    (case k11 => k_is)
    (case h11 => kernel_rfl)
    (case hkp => kernel_rfl)
    (case a12 => k_is)
    (case l12 => k_is)
    (case c12 => k_is)
    (case k12 => k_is)
    (case a13 => k_is)
    (case l13 => k_is)
    (case c13 => k_is)
    (case k13 => k_is)
    (case a14 => k_is)
    (case l14 => k_is)
    (case c14 => k_is)
    (case k14 => k_is)
    (case a15 => k_is)
    (case l15 => k_is)
    (case c15 => k_is)
    (case k15 => k_is)
    (case a16 => k_is)
    (case l16 => k_is)
    (case c16 => k_is)
    (case k16 => k_is)
    (case a17 => k_is)
    (case l17 => k_is)
    (case c17 => k_is)
    (case k17 => k_is)
    (case a18 => k_is)
    (case l18 => k_is)
    (case c18 => k_is)
    (case k18 => k_is)
    (case a19 => k_is)
    (case l19 => k_is)
    (case c19 => k_is)
    (case k19 => k_is)
    (case a20 => k_is)
    (case l20 => k_is)
    (case c20 => k_is)
    (case k20 => k_is)
    (case a21 => k_is)
    (case l21 => k_is)
    (case c21 => k_is)
    (case k21 => k_is)
    (case a22 => k_is)
    (case l22 => k_is)
    (case c22 => k_is)
    (case k22 => k_is)
    (case a23 => k_is)
    (case l23 => k_is)
    (case c23 => k_is)
    (case k23 => k_is)
    (case a24 => k_is)
    (case l24 => k_is)
    (case c24 => k_is)
    (case k24 => k_is)
    (case a25 => k_is)
    (case l25 => k_is)
    (case c25 => k_is)
    (case k25 => k_is)
    (case a26 => k_is)
    (case l26 => k_is)
    (case c26 => k_is)
    (case k26 => k_is)
    (case z_abs => k_is)
    (case z_all => k_is)
    (case z_bool => k_is)
    (case z_enumerate => k_is)
    (case z_int => k_is)
    (case z_isinstance => k_is)
    (case z_len => k_is)
    (case z_list => k_is)
    (case z_max => k_is)
    (case z_min => k_is)
    (case z_range => k_is)
    (case z_reversed => k_is)
    (case z_sorted => k_is)
    (case z_tuple => k_is)
    (case z_zip => k_is)
#print axioms PySem.Challenge.cw_fewnotes_k32_wants_apart_judged_holds
