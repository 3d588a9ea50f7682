import PyProof.Rows.All
import Wide.All
import OpenK.AllK
import Wide.FinOn
import Lean
import PyProof.EqAt
import PyProof.EqKinds
import PyProof.TupleCall
import PyProof.EqLayable
import PyProof.ExcArgsOwn
import PyProof.ExcAttrAll.Exception
import PyProof.RulesAs
import PyProof.ExcBaseAll.ValueError
import PyProof.NsDelKeeps
import KE.KRevSl
import PySem.Challenge.RW_fewnotes_k30_which_wants_are_met
set_option Elab.async false
set_option linter.all false
set_option maxRecDepth 100000
/-! THE HAND LAYER, for ints, bools, texts, own classes, LISTS and tuples (index, slices, in, append, pop ..), calls, loops. Paste it whole ahead of your own text; what your proof does not reach may be deleted. -/
namespace L2
open PySem PySem.Spec PyProof.Rows

/-- a key: an int or a str -/
abbrev Key := Sum Int Str
def keyIs : Key → Value → Bool
  | .inl k, v => Value.isInt k v
  | .inr x, v => Value.isStrOf x v
def keyH (w : World) : Key → Int
  | .inl k => hashInt k
  | .inr x => hashStr w x
theorem keyIs_shape : ∀ {k : Key} {v : Value}, keyIs k v = true → (∃ i t, k = Sum.inl i ∧ v = Value.int i t) ∨ (∃ x t, k = Sum.inr x ∧ v = Value.str x t)
  | .inl i, v, h => by
    obtain ⟨t, e⟩ := Value.isInt_shape (k := i) (v := v) h
    exact .inl ⟨i, t, rfl, e⟩
  | .inr x, v, h => by
    obtain ⟨t, e⟩ := Value.isStrOf_shape (x := x) (v := v) h
    exact .inr ⟨x, t, rfl, e⟩
theorem keyIs_int (i : Int) (t : Tok) : keyIs (.inl i) (.int i t) = true := by simp [keyIs, Value.isInt]
theorem keyIs_str (x : Str) (t : Tok) : keyIs (.inr x) (.str x t) = true := by simp [keyIs, Value.isStrOf]
theorem key_ll (a b : Int) : decide ((Sum.inl a : Key) = Sum.inl b) = (a == b) := by
  by_cases e : a = b
  · subst e; simp
  · have h : ¬ (Sum.inl a : Key) = Sum.inl b := fun q => e (Sum.inl.inj q)
    rw [decide_eq_false h]
    exact (beq_eq_false_iff_ne.mpr e).symm
theorem key_rr (a b : Str) : decide ((Sum.inr a : Key) = Sum.inr b) = decide (a = b) := by
  by_cases e : a = b
  · subst e; simp
  · have h : ¬ (Sum.inr a : Key) = Sum.inr b := fun q => e (Sum.inr.inj q)
    rw [decide_eq_false h, decide_eq_false e]
theorem key_lr (a : Int) (b : Str) : decide ((Sum.inl a : Key) = Sum.inr b) = false := decide_eq_false (fun q => nomatch q)
theorem key_rl (a : Str) (b : Int) : decide ((Sum.inr a : Key) = Sum.inl b) = false := decide_eq_false (fun q => nomatch q)

def mixKind (prog : Program) (w : World) : PySem.KeyKind prog w Key where
  is := keyIs
  hash := keyH w
  inj := fun v a b ha hb => by
    rcases keyIs_shape ha with ⟨i, t, rfl, rfl⟩ | ⟨x, t, rfl, rfl⟩
    · rcases keyIs_shape hb with ⟨j, u, rfl, e⟩ | ⟨y, u, rfl, e⟩
      · injection e with e1 _; rw [e1]
      · exact nomatch e
    · rcases keyIs_shape hb with ⟨j, u, rfl, e⟩ | ⟨y, u, rfl, e⟩
      · exact nomatch e
      · injection e with e1 _; rw [e1]
  byValue := fun k v h => by
    rcases keyIs_shape h with ⟨i, t, rfl, rfl⟩ | ⟨x, t, rfl, rfl⟩ <;> rfl
  pyHash := fun hv h => by
    rcases keyIs_shape hv with ⟨i, t, rfl, rfl⟩ | ⟨x, t, rfl, rfl⟩
    · exact wpAny_pyHash_int h
    · exact wpAny_pyHash_str h
  eqBool := fun hu hv h => by
    rcases keyIs_shape hu with ⟨i, t, rfl, rfl⟩ | ⟨x, t, rfl, rfl⟩
    · rcases keyIs_shape hv with ⟨j, u, rfl, rfl⟩ | ⟨y, u, rfl, rfl⟩
      · rw [key_ll] at h; exact wpAny_eqBool_int h
      · rw [key_lr] at h; exact SeqAt.EqAt.int_str i t y u _ _ _ _ h
    · rcases keyIs_shape hv with ⟨j, u, rfl, rfl⟩ | ⟨y, u, rfl, rfl⟩
      · rw [key_rl] at h; exact SeqAt.EqAt.str_int x t j u _ _ _ _ h
      · rw [key_rr] at h; exact wpAny_eqBool_str h
  «strs» := fun k x t v h => by
    rcases keyIs_shape h with ⟨i, u, rfl, e⟩ | ⟨y, u, rfl, e⟩
    · exact nomatch e
    · injection e with e1 _
      subst e1
      cases v <;> rfl

theorem mixKind_int (prog : Program) (w : World) (i : Int) (t : Tok) : (mixKind prog w).is (.inl i) (.int i t) = true := keyIs_int i t
theorem mixKind_str (prog : Program) (w : World) (x : Str) (t : Tok) : (mixKind prog w).is (.inr x) (.str x t) = true := keyIs_str x t
end L2

namespace L2
open PySem PySem.Spec PyProof.Rows

/-- a value, without the heap -/
inductive V where
  | non | bl (b : Bool) | int (i : Int) | str (x : Str) | byt (b : Array UInt8) | flt (b : UInt64) | ref (a : Addr) | ty (n : String)
  deriving DecidableEq

def RelV : V → Value → Prop
  | .non, u => u = Value.none
  | .bl b, u => u = Value.bool b
  | .int i, u => ∃ t, u = Value.int i t
  | .str x, u => ∃ t, u = Value.str x t
  | .byt b, u => ∃ t, u = Value.bytes b t
  | .flt b, u => ∃ t, u = Value.float b t
  | .ref a, u => u = Value.ref a
  | .ty n, u => u = Value.type n

abbrev Vals : List V → List Value → Prop := Paired RelV
theorem Vals.length {xs : List V} {us : List Value} (r : Vals xs us) : xs.length = us.length := Paired.length r
theorem Vals.get : ∀ {xs : List V} {us : List Value} {i : Nat} {x : V}, Vals xs us → xs[i]? = some x → ∃ u, us[i]? = some u ∧ RelV x u
  | _, _, _, _, .nil, e => by simp at e
  | _, _, 0, _, .cons r _, e => by simp at e; subst e; exact ⟨_, rfl, r⟩
  | _, _, i + 1, x, .cons _ t, e => by
    obtain ⟨u, h1, h2⟩ := Vals.get (i := i) (x := x) t (by simpa using e)
    exact ⟨u, by simpa using h1, h2⟩
theorem Vals.set {x : V} {u : Value} (r : RelV x u) : ∀ {xs : List V} {us : List Value} (i : Nat), Vals xs us → Vals (xs.set i x) (us.set i u)
  | _, _, _, .nil => .nil
  | _, _, 0, .cons _ t => .cons r t
  | _, _, i + 1, .cons q t => .cons q (Vals.set r i t)
theorem Vals.append {xs ys : List V} {us ws : List Value} (h : Vals xs us) (s : Vals ys ws) : Vals (xs ++ ys) (us ++ ws) := by
  induction h with
  | nil => exact s
  | cons r t ih => exact .cons r ih
theorem Vals.take : ∀ {xs : List V} {us : List Value} (n : Nat), Vals xs us → Vals (xs.take n) (us.take n)
  | _, _, 0, _ => .nil
  | _, _, _ + 1, .nil => .nil
  | _, _, n + 1, .cons r t => .cons r (Vals.take n t)
theorem Vals.drop : ∀ {xs : List V} {us : List Value} (n : Nat), Vals xs us → Vals (xs.drop n) (us.drop n)
  | _, _, 0, r => r
  | _, _, _ + 1, .nil => .nil
  | _, _, n + 1, .cons _ t => Vals.drop n t
def RelO : Option V → Option Value → Prop
  | some v, some u => RelV v u
  | none, none => True
  | _, _ => False
def KV {κ : Type} : List (κ × V) → List (κ × Value) → Prop := Paired fun (p : κ × V) (q : κ × Value) => p.1 = q.1 ∧ RelV p.2 q.2

/-- a key of a dict (00_mix): an int or a text -/
def kV : Key → V
  | .inl i => .int i
  | .inr x => .str x

/-- what stands at a tracked address -/
inductive HO where
  /-- a list -/
  | lst (xs : List V)
  /-- a tuple (never changes) -/
  | tup (xs : List V)
  /-- a dict whose keys are ints and texts; one whose keys are tuples of ints and texts (the empty one is both) -/
  | dK (kvs : List (Key × V)) | dT (kvs : List (List Key × V))
  /-- a set of ints: its members, its size -/
  | set (S : Int → Bool) (n : Nat)
  /-- an instance of the class at C, its dict at dx, its attributes -/
  | ins (C dx : Addr) (fs : List (Str × V))
  /-- the dict of the instance at x -/
  | own (x : Addr)
  /-- the dict of an exception -/
  | xd (fs : List (Str × V))
  /-- a bound method, f of x -/
  | met (f x : Addr)
  /-- a range object lo, lo + 1, .. below hi -/
  | rng (lo hi : Int)
  /-- a thing that is known to the object (the script; a dict while a loop walks it): read, never written while it is so -/
  | frz (o : Obj) (u : HO)
  /-- a code object's table -/
  | tbl (ps : Array Value)
  /-- any other thing, by what is true of its one object (a def of one's own: SetO a S n := HO.ext fun h => ..) -/
  | ext (φ : Heap → Prop)

abbrev Hp := Addr → Option HO
def upd (H : Hp) (a : Addr) (o : HO) : Hp := fun b => if b = a then some o else H b
theorem upd_same {H : Hp} {a : Addr} {o : HO} : upd H a o a = some o := by unfold upd; rw [if_pos rfl]
theorem upd_ne {H : Hp} {a b : Addr} {o : HO} (h : b ≠ a) : upd H a o b = H b := by unfold upd; rw [if_neg h]
theorem upd_upd {H : Hp} {a : Addr} {o u : HO} : upd (upd H a o) a u = upd H a u := by
  funext b; unfold upd; split <;> rfl
/-- two objects of different content stand apart -/
theorem ne_of {H : Hp} {a b : Addr} {o u : HO} (h : H a = some o) (h' : H b = some u) (d : o ≠ u) : a ≠ b := by
  intro e; subst e; rw [h] at h'; exact d (Option.some.inj h')
theorem ne_of_none {H : Hp} {a b : Addr} {o : HO} (h : H a = some o) (h' : H b = none) : a ≠ b := by
  intro e; subst e; rw [h] at h'; cases h'

section
variable (P : Program) (w : World)
def ObjOk (H : Hp) (h : Heap) (a : Addr) : HO → Prop
  | .lst xs => xs.length ≤ sizeLine ∧ ∃ (its : List Value) (n : Nat), Vals xs its ∧ h.get? a = some { cls := .type "list", data := .seq its.toArray n }
  | .tup xs => xs.length ≤ sizeLine ∧ ∃ its : List Value, Vals xs its ∧ IsTup h a its.toArray
  | .dK kvs => kvs.length ≤ sizeLine ∧ (a == sysModules) = false ∧ ∃ vs, KV kvs vs ∧ h.DictOf (mixKind P w) a vs
  | .dT kvs => kvs.length ≤ sizeLine ∧ (a == sysModules) = false ∧ ∃ xs : List (List Key × Addr × Value),
      Paired (fun (p : List Key × V) (q : List Key × Addr × Value) => p.1 = q.1 ∧ H q.2.1 = some (.tup (p.1.map kV)) ∧ RelV p.2 q.2.2) kvs xs ∧
      ∃ o es ep, h.get? a = some o ∧ o.ExactDict ∧ o.data = .dict es ep ∧ es.toList = xs.map (entryOfKey (tupleKind (mixKind P w))) ∧ (xs.map (·.1)).Nodup
  | .set S n => h.SetOf (intKind P w) a S n
  | .ins C dx fs => H dx = some (.own a) ∧ fs.length ≤ 1000 ∧ dx ≠ a ∧ h.get? a = some (PySem.W.instObj C dx) ∧
      ∃ mA, h.Ns1 dx mA ∧ (∀ f, RelO (fs.lookup f) (mA f)) ∧ PySem.Within mA (fs.map (·.1))
  | .own _ => ∃ o, h.get? a = some o
  | .xd fs => ∃ mA, h.Ns1 a mA ∧ ∀ f, RelO (fs.lookup f) (mA f)
  | .rng lo hi => ∃ t u v, h.get? a = some { cls := .type "range", data := .fields #[.int lo t, .int hi u, .int 1 v] }
  | .frz o u => h.get? a = some o ∧ ObjOk H h a u
  | .tbl ps => h.get? a = some { cls := .none, data := .fields ps }
  | .met f x => h.get? a = some (PySem.W.methodObj (.ref f) (.ref x))
  | .ext φ => φ h ∧ (∃ o, h.get? a = some o) ∧ ∀ h1 h2 : Heap, φ h1 → (∀ o, h1.get? a = some o → h2.get? a = some o) → φ h2
/-- the abstract heap is held -/
def HOk (H : Hp) (h : Heap) : Prop := ∀ a o, H a = some o → ObjOk P w H h a o
end

section
variable {P : Program} {w : World} {H H' : Hp} {h h' : Heap} {a : Addr} {o : HO}
theorem ObjOk.lt (x : ObjOk P w H h a o) : a < h.objs.size := by
  cases o with
  | lst xs => obtain ⟨_, _, _, _, e⟩ := x; exact Heap.lt_size e
  | tup xs => obtain ⟨_, _, _, p⟩ := x; exact p.lt
  | dK kvs => obtain ⟨_, _, _, _, o, _, _, e, _⟩ := x; exact Heap.lt_size e
  | dT kvs => obtain ⟨_, _, _, _, o, _, _, e, _⟩ := x; exact Heap.lt_size e
  | set S n => obtain ⟨o, _, _, _, e, _⟩ := x; exact Heap.lt_size e
  | ins C dx fs => obtain ⟨_, _, _, e, _⟩ := x; exact Heap.lt_size e
  | own y => obtain ⟨_, e⟩ := x; exact Heap.lt_size e
  | xd fs => obtain ⟨_, ⟨_, _, _, e, _⟩, _⟩ := x; exact Heap.lt_size e
  | rng lo hi => obtain ⟨_, _, _, e⟩ := x; exact Heap.lt_size e
  | frz ob u => obtain ⟨e, _⟩ := x; exact Heap.lt_size e
  | tbl ps => exact Heap.lt_size (show h.get? a = some _ from x)
  | met f y => exact Heap.lt_size (show h.get? a = some _ from x)
  | ext φ => obtain ⟨_, ⟨_, e⟩, _⟩ := x; exact Heap.lt_size e
theorem Paired.mapP {α β : Type} {F G : α → β → Prop} : ∀ {l₁ : List α} {l₂ : List β}, Paired F l₁ l₂ → (∀ a b, F a b → G a b) → Paired G l₁ l₂
  := by
  intro l₁ l₂ h f
  induction h with
  | nil => exact .nil
  | cons r t ih => exact .cons (f _ _ r) ih
/-- what an object's description leans on: its own object, its own dict, the tuples -/
theorem ObjOk.stay (x : ObjOk P w H h a o) (k : ∀ b u, (b = a ∨ H b = some (.own a)) → h.get? b = some u → h'.get? b = some u)
    (ho : ∀ b, H b = some (.own a) → H' b = some (.own a)) (ht : ∀ b xs, H b = some (.tup xs) → H' b = some (.tup xs)) : ObjOk P w H' h' a o := by
  induction o with
  | lst xs => obtain ⟨z, its, n, r, e⟩ := x; exact ⟨z, its, n, r, k _ _ (.inl rfl) e⟩
  | tup xs => obtain ⟨z, its, r, ob, e, c⟩ := x; exact ⟨z, its, r, ob, k _ _ (.inl rfl) e, c⟩
  | dK kvs => obtain ⟨z, y, vs, r, ob, es, ep, e, c⟩ := x; exact ⟨z, y, vs, r, ob, es, ep, k _ _ (.inl rfl) e, c⟩
  | dT kvs =>
    obtain ⟨z, y, xs, r, ob, es, ep, e, c⟩ := x
    exact ⟨z, y, xs, Paired.mapP r fun p q z => ⟨z.1, ht _ _ z.2.1, z.2.2⟩, ob, es, ep, k _ _ (.inl rfl) e, c⟩
  | set S n => obtain ⟨ob, es, ep, t, e, c⟩ := x; exact ⟨ob, es, ep, t, k _ _ (.inl rfl) e, c⟩
  | ins C dx fs =>
    obtain ⟨d, z, ne, e, mA, ⟨od, es, ep, e2, c⟩, r⟩ := x
    exact ⟨ho _ d, z, ne, k _ _ (.inl rfl) e, mA, ⟨od, es, ep, k _ _ (.inr d) e2, c⟩, r⟩
  | own y => obtain ⟨ob, e⟩ := x; exact ⟨ob, k _ _ (.inl rfl) e⟩
  | xd fs => obtain ⟨mA, ⟨od, es, ep, e, c⟩, r⟩ := x; exact ⟨mA, ⟨od, es, ep, k _ _ (.inl rfl) e, c⟩, r⟩
  | rng lo hi => obtain ⟨t, u, v, e⟩ := x; exact ⟨t, u, v, k _ _ (.inl rfl) e⟩
  | frz ob u ih => obtain ⟨e, q⟩ := x; exact ⟨k _ _ (.inl rfl) e, ih q⟩
  | tbl ps =>
    have e : h.get? a = some { cls := .none, data := .fields ps } := x
    show h'.get? a = some { cls := .none, data := .fields ps }
    exact k a _ (.inl rfl) e
  | met f y =>
    have e : h.get? a = some (PySem.W.methodObj (.ref f) (.ref y)) := x
    show h'.get? a = some (PySem.W.methodObj (.ref f) (.ref y))
    exact k a _ (.inl rfl) e
  | ext φ => obtain ⟨p, ⟨o, e⟩, st⟩ := x; exact ⟨st _ _ p fun o q => k _ _ (.inl rfl) q, ⟨o, k _ _ (.inl rfl) e⟩, st⟩
theorem HOk.lt (x : HOk P w H h) (e : H a = some o) : a < h.objs.size := (x a o e).lt
theorem HOk.fresh (x : HOk P w H h) (e : h.objs.size ≤ a) : H a = none := by
  cases q : H a with
  | none => rfl
  | some u => exact absurd (Nat.lt_of_lt_of_le (x.lt q) e) (Nat.lt_irrefl _)
/-- every object of the heap is kept -/
theorem HOk.kept (x : HOk P w H h) (k : ∀ b u, h.get? b = some u → h'.get? b = some u) : HOk P w H h' := fun a o e =>
  (x a o e).stay (fun b u _ q => k b u q) (fun _ q => q) fun _ _ q => q
/-- a new object is laid and tracked -/
theorem HOk.laid (x : HOk P w H h) (k : ∀ b u, h.get? b = some u → h'.get? b = some u) (hp : h.objs.size ≤ a) (new : ObjOk P w (upd H a o) h' a o) : HOk P w (upd H a o) h' := fun b u e => by
  have hn := x.fresh hp
  by_cases hb : b = a
  · subst hb; rw [upd_same] at e; cases e; exact new
  · rw [upd_ne hb] at e
    exact (x b u e).stay (fun c v _ q => k c v q) (fun c q => by rw [upd_ne (ne_of_none q hn)]; exact q) fun c xs q => by rw [upd_ne (ne_of_none q hn)]; exact q
end

/-- what may be read as u: it is u, or a known u -/
def Rd (H : Hp) (a : Addr) (u : HO) : Prop := H a = some u ∨ ∃ o, H a = some (.frz o u)
theorem Rd.ok {P : Program} {w : World} {H : Hp} {h : Heap} {a : Addr} {u : HO} (r : Rd H a u) (x : HOk P w H h) : ObjOk P w H h a u := by
  rcases r with r | ⟨o, r⟩
  · exact x a u r
  · obtain ⟨_, q⟩ := x a _ r
    exact q
/-- what may be written -/
def Mut : Option HO → Prop
  | some (.lst _) => True
  | some (.dK _) => True
  | some (.dT _) => True
  | some (.set _ _) => True
  | some (.ins _ _ _) => True
  | some (.ext _) => True
  | _ => False
section
variable {P : Program} {w : World} {H : Hp} {h h' : Heap} {x e : Addr} {o' : HO}
/-- the object at e is changed: x itself, or the dict of the instance x -/
theorem HOk.write (ok : HOk P w H h) (mu : Mut (H x)) (he : e = x ∨ H e = some (.own x)) (k : ∀ b u, b ≠ e → h.get? b = some u → h'.get? b = some u) (heo : ∃ u, h'.get? e = some u)
    (new : ObjOk P w (upd H x o') h' x o') : HOk P w (upd H x o') h' := fun b u q => by
  have nown : ∀ c y, H c = some (.own y) → c ≠ x := fun c y r z => by subst z; rw [r] at mu; exact mu
  have ntup : ∀ c xs, H c = some (.tup xs) → c ≠ x := fun c xs r z => by subst z; rw [r] at mu; exact mu
  by_cases hb : b = x
  · subst hb; rw [upd_same] at q; cases q; exact new
  · rw [upd_ne hb] at q
    by_cases hbe : b = e
    · have q' : H b = some (.own x) := by
        rcases he with z | z
        · exact absurd (hbe.trans z) hb
        · rw [hbe]; exact z
      rw [q] at q'; cases q'
      obtain ⟨v, hv⟩ := heo
      exact ⟨v, by rw [hbe]; exact hv⟩
    · refine (ok b u q).stay (fun c v hc r => k c v ?_ r) (fun c r => by rw [upd_ne (nown c b r)]; exact r) fun c xs r => by rw [upd_ne (ntup c xs r)]; exact r
      rcases hc with rfl | hc
      · exact hbe
      · rintro rfl
        rcases he with z | z
        · exact nown c b hc z
        · rw [hc] at z; cases z; exact hb rfl
end

/-! ### kept unless tracked; of the frames at fs (the callers') the slots may change (an exception that passes writes there); of the records at ex (iterators) nothing is said -/
structure Un (fs ex : List Addr) (H H' : Hp) (h h' : Heap) : Prop where
  keep : ∀ b o, h.get? b = some o → H b = none → b ∉ fs → b ∉ ex → h'.get? b = some o
  slot : ∀ b o, h.get? b = some o → H b = none → b ∈ fs → b ∉ ex → ∃ sl, h'.get? b = some { o with slots := sl }
  free : ∀ b o, h.get? b = some o → H b = none → b ∉ ex → H' b = none
  there : ∀ b o, h.get? b = some o → b ∉ ex → ∃ o', h'.get? b = some o'
  tups : ∀ b xs, H b = some (.tup xs) → H' b = some (.tup xs)
  frzs : ∀ b o u, H b = some (.frz o u) → H' b = some (.frz o u)
  tbls : ∀ b ps, H b = some (.tbl ps) → ∃ more, H' b = some (.tbl (ps ++ more))
section
variable {fs fs' ex ex' : List Addr} {H H1 H2 : Hp} {h h1 h2 h' : Heap} {a x e : Addr} {o : HO}
theorem Un.any (u : Un fs ex H H1 h h1) {b : Addr} {ob : Obj} (q : h.get? b = some ob) (n : H b = none) (hx : b ∉ ex) : ∃ sl, h1.get? b = some { ob with slots := sl } := by
  by_cases hb : b ∈ fs
  · exact u.slot b ob q n hb hx
  · exact ⟨ob.slots, u.keep b ob q n hb hx⟩
theorem Un.kept (k : ∀ b u, h.get? b = some u → h'.get? b = some u) : Un fs ex H H h h' :=
  ⟨fun b ob q _ _ _ => k b ob q, fun b ob q _ _ _ => ⟨ob.slots, k b ob q⟩, fun _ _ _ n _ => n, fun b ob q _ => ⟨ob, k b ob q⟩, fun _ _ q => q, fun _ _ _ q => q, fun _ ps q => ⟨#[], by rw [q]; simp⟩⟩
theorem Un.refl : Un fs ex H H h h := Un.kept fun _ _ q => q
theorem Un.laid (k : ∀ b u, h.get? b = some u → h'.get? b = some u) (hp : h.objs.size ≤ a) (hn : H a = none) : Un fs ex H (upd H a o) h h' where
  keep := fun b u q _ _ _ => k b u q
  slot := fun b u q _ _ _ => ⟨u.slots, k b u q⟩
  free := fun b u q n _ => by rw [upd_ne (Nat.ne_of_lt (Nat.lt_of_lt_of_le (Heap.lt_size q) hp))]; exact n
  there := fun b u q _ => ⟨u, k b u q⟩
  tups := fun b xs q => by rw [upd_ne (ne_of_none q hn)]; exact q
  frzs := fun b u xs q => by rw [upd_ne (ne_of_none q hn)]; exact q
  tbls := fun b ps q => ⟨#[], by rw [upd_ne (ne_of_none q hn), q]; simp⟩
theorem Un.write (mu : Mut (H x)) (he : e = x ∨ H e = some (.own x)) (k : ∀ b u, b ≠ e → h.get? b = some u → h'.get? b = some u) (heo : ∃ u, h'.get? e = some u) : Un fs ex H (upd H x o) h h' := by
  have hx : ∀ b, H b = none → b ≠ x := fun b n z => by subst z; rw [n] at mu; exact mu
  have hb : ∀ b, H b = none → b ≠ e := fun b n z => by
    subst z
    rcases he with r | r
    · exact hx b n r
    · rw [n] at r; cases r
  have hm : ∀ b u, H b = some u → ¬ Mut (some u) → b ≠ x := fun b u q nm z => by subst z; rw [q] at mu; exact nm mu
  refine ⟨fun b u q n _ _ => k b u (hb b n) q, fun b u q n _ _ => ⟨u.slots, k b u (hb b n) q⟩, fun b u q n _ => by rw [upd_ne (hx b n)]; exact n, fun b u q _ => ?_,
    fun b xs q => by rw [upd_ne (hm b _ q fun z => z)]; exact q, fun b u xs q => by rw [upd_ne (hm b _ q fun z => z)]; exact q, fun b ps q => ⟨#[], by rw [upd_ne (hm b _ q fun z => z), q]; simp⟩⟩
  by_cases hbe : b = e
  · subst hbe; exact heo
  · exact ⟨u, k b u hbe q⟩
end

/-! ### the heap without what is tracked -/
def trk (h : Heap) (H : Hp) : List Addr := (List.range h.objs.size).filter fun a => (H a).isSome
def hidT (h : Heap) (H : Hp) : Heap := PySem.W.hideAll h (trk h H)
theorem hidT_size (h : Heap) (H : Hp) : (hidT h H).objs.size = h.objs.size := PySem.W.hideAll_size _ _
theorem hidT_get {h : Heap} {H : Hp} {b : Addr} {o : Obj} (e : h.get? b = some o) (n : H b = none) : (hidT h H).get? b = some o :=
  PySem.W.hideAll_get _ e fun hm => by
    have q : (H b).isSome = true := (List.mem_filter.mp hm).2
    rw [n] at q; simp at q
theorem of_hidT {h : Heap} {H : Hp} {b : Addr} {o : Obj} (e : (hidT h H).get? b = some o) : h.get? b = some o ∧ H b = none := by
  have e' : h.get? b = some o := PySem.W.of_hideAll (trk h H) e
  refine ⟨e', ?_⟩
  cases q : H b with
  | none => rfl
  | some x =>
    have hm : b ∈ trk h H := List.mem_filter.mpr ⟨List.mem_range.mpr (Heap.lt_size e'), by simp [q]⟩
    have z : (hidT h H).get? b = none := PySem.W.hideAll_none (trk h H) hm
    rw [z] at e; cases e

/-! ### OpenK's ledger, filled with every new object but one -/
def allNews (g h : Heap) (L : Addr) : List (Addr × Obj) := (List.range h.objs.size).filterMap fun a => if a = L ∨ (g.get? a).isSome = true then none else (h.get? a).map fun o => (a, o)
def rest (g h : Heap) (L d : Addr) : List (Addr × Obj) := (allNews g h L).filter fun p => decide (p.1 ≠ d)
end L2

namespace L2
open PySem PySem.Spec PyProof.Rows

/-- the module's facts, over the base: the heap at the law's entry without what is tracked there -/
structure Mod (K : PySem.W.Frag) (mg : Str → Option Value) (base : Heap) : Prop where
  kin : K.In base
  glob : base.Ns mainGlobals mg
  blt : ∃ mb, base.Ns builtinsNs mb ∧ ∀ x : Str, x ≠ "__name__" → mb x = bootBuiltins x
  nolimit : base.NoLimit

/-- the context: a def's body (or a comprehension's block) running. base: fixed through the whole law; s₀, H₀: the entry; outer: the frames whose slots others may change (a def's callers); stack: all frames that run;
   ex: iterators that were made ahead of the entry and are walked here (a comprehension's); fn: the names whose cells were made at the entry (a def: all; a comprehension's block: its own); calm: not within an except suite; pn: pins that every state bears; xe: what is wanted of an exception that leaves the code -/
structure Cx where
  prog : Program
  w : World
  K : PySem.W.Frag
  mg : Str → Option Value
  base : Heap
  A : Around
  N : List Str
  s₀ : Shared
  H₀ : Hp
  env : Env
  outer : List Env
  stack : List Env
  ex : List Addr
  fn : Str → Bool
  calm : Bool
  pn : List (Addr × Obj)
  xe : Value → Shared → Prop
/-- the callers' frames -/
def frs (l : List Env) : List Addr := l.filterMap (·.frame)
abbrev Cx.fs (X : Cx) : List Addr := frs X.outer

def Vis (sc : Scope) (x : Str) : Prop := sc.names.lookup x = some .local ∨ sc.names.lookup x = some .cell ∨ sc.names.lookup x = some .free
def Loc (sc : Scope) (x : Str) : Prop := sc.names.lookup x = some .local ∨ sc.names.lookup x = some .cell
def Look (env : Env) (h : Heap) (m : Str → Option Value) (x : Str) (u : Value) : Prop :=
  (env.kindOf x = some .local ∧ m x = some u) ∨ ((env.kindOf x = some .cell ∨ env.kindOf x = some .free) ∧ ∃ c, env.cells.lookup x = some c ∧ h.IsCell c (some u))

structure Cx.Ok (X : Cx) : Prop where
  mod : Mod X.K X.mg X.base
  kind : X.env.scope.kind = .function
  glob : X.env.globals = mainGlobals
  blt : X.env.builtins = builtinsNs
  above : X.s₀.heap.objs.size ≤ X.env.locals
  inj : ∀ x y c, X.env.cells.lookup x = some c → X.env.cells.lookup y = some c → x = y
  has : ∀ x, (X.env.kindOf x = some .cell ∨ X.env.kindOf x = some .free) → ∃ c, X.env.cells.lookup x = some c
  cab : ∀ x c, X.fn x = true → X.env.cells.lookup x = some c → X.s₀.heap.objs.size ≤ c
  hd : X.calm = true → X.A.handled = none
  frames : X.A.frames = some X.stack
  stk : X.stack = X.outer ∨ (X.stack = X.env :: X.outer ∧ X.env.frame = some X.env.locals)
  exf : ∀ b ∈ X.ex, b ≠ X.env.locals ∧ ∀ x c, X.env.cells.lookup x = some c → c ≠ b
  bs : ∀ b o, X.base.get? b = some o → X.s₀.heap.get? b = some o ∧ X.H₀ b = none
  bsz : X.base.objs.size ≤ X.s₀.heap.objs.size
  noex : ∀ b o, X.base.get? b = some o → b ∉ X.ex
  exfs : ∀ b ∈ X.ex, b ∉ X.fs
  funs : X.s₀.heap.FunFrames X.base X.outer
  frf : ∀ b ∈ X.fs, X.H₀ b = none

structure Inv (X : Cx) (pins : List (Addr × Obj)) (σ : List (Option V)) (H : Hp) (s : Shared) : Prop where
  ok : X.Ok
  os : s.os = X.s₀.os
  bare : AllBare s.gens
  base : Un X.fs X.ex X.H₀ H X.s₀.heap s.heap
  loc : ∃ m, s.heap.Ns X.env.locals m ∧ ∀ (i : Nat) (x : Str) (v : V), X.N[i]? = some x → σ[i]? = some (some v) → Vis X.env.scope x → ∃ u, RelV v u ∧ Look X.env s.heap m x u
  cell : ∀ x c, X.env.cells.lookup x = some c → ∃ v, s.heap.IsCell c v
  free : H X.env.locals = none
  freeC : ∀ x c, X.env.cells.lookup x = some c → H c = none
  pin : ∀ p ∈ X.pn ++ pins, s.heap.get? p.1 = some p.2 ∧ H p.1 = none ∧ p.1 ≠ X.env.locals ∧ p.1 ∉ X.fs ∧ ∀ v, p.2.data ≠ .cell v
  hok : HOk X.prog X.w H s.heap
  len : σ.length = X.N.length

section
variable {X : Cx} {pins : List (Addr × Obj)} {σ : List (Option V)} {H H' : Hp} {s : Shared} {h' : Heap}

theorem Cx.Ok.nofr (ok : X.Ok) {b : Addr} {o : Obj} (e : X.base.get? b = some o) : b ∉ X.fs := fun hb => by
  have := (ok.funs.mem hb).1
  rw [e] at this; cases this
theorem Inv.bs (I : Inv X pins σ H s) : ∀ b o, X.base.get? b = some o → s.heap.get? b = some o ∧ H b = none := fun b o e =>
  ⟨I.base.keep b o (I.ok.bs b o e).1 (I.ok.bs b o e).2 (I.ok.nofr e) (I.ok.noex b o e), I.base.free b o (I.ok.bs b o e).1 (I.ok.bs b o e).2 (I.ok.noex b o e)⟩
theorem Inv.bk (I : Inv X pins σ H s) : ∀ b o, X.base.get? b = some o → s.heap.get? b = some o := fun b o e => (I.bs b o e).1
theorem Inv.mod (I : Inv X pins σ H s) : Mod X.K X.mg X.base := I.ok.mod
theorem Inv.kIn (I : Inv X pins σ H s) : X.K.In s.heap := I.ok.mod.kin.keeps I.bk
theorem Inv.lt (I : Inv X pins σ H s) : X.env.locals < s.heap.objs.size := let ⟨_, hn, _⟩ := I.loc; hn.lt
theorem Inv.sz (I : Inv X pins σ H s) : X.s₀.heap.objs.size ≤ s.heap.objs.size := Nat.le_trans I.ok.above (Nat.le_of_lt I.lt)
theorem Inv.nofs (I : Inv X pins σ H s) {a : Addr} (h : s.heap.objs.size ≤ a) : a ∉ X.fs := fun hb => by
  obtain ⟨_, o, ho, _⟩ := I.ok.funs.mem hb
  exact absurd (Nat.lt_of_lt_of_le (Heap.lt_size ho) (Nat.le_trans I.sz h)) (Nat.lt_irrefl _)
theorem Inv.cne (I : Inv X pins σ H s) : ∀ x c, X.env.cells.lookup x = some c → c ≠ X.env.locals := fun x c e z => by
  obtain ⟨v, o, ho, hd⟩ := I.cell x c e
  obtain ⟨m, ⟨o', es, ep, ho', hd', _⟩, _⟩ := I.loc
  rw [z, ho'] at ho; cases ho; rw [hd'] at hd; cases hd
theorem Inv.funs (I : Inv X pins σ H s) : s.heap.FunFrames X.base X.outer := by
  have all : ∀ (l : List Env), (∀ b ∈ frs l, b ∈ X.fs) → X.s₀.heap.FunFrames X.base l → s.heap.FunFrames X.base l := by
    intro l
    induction l with
    | nil => intro _ _; trivial
    | cons env r ih =>
      intro hs hl
      obtain ⟨hk, ⟨L, o, hf, hn, ho, hd⟩, hr⟩ := hl
      have hL : L ∈ X.fs := hs L (by unfold frs; rw [List.filterMap_cons, hf]; exact List.mem_cons_self)
      obtain ⟨sl, e⟩ := I.base.slot L o ho (I.ok.frf L hL) hL fun z => I.ok.exfs L z hL
      exact ⟨hk, ⟨L, _, hf, hn, e, hd⟩, ih (fun b hb => hs b (by unfold frs; rw [List.filterMap_cons, hf]; exact List.mem_cons_of_mem _ hb)) hr⟩
  exact all X.outer (fun _ hb => hb) I.ok.funs

/-- the frames that run, for a call -/
theorem Inv.stack (I : Inv X pins σ H s) : s.heap.FunFrames X.base X.stack := by
  rcases I.ok.stk with e | ⟨e, hf⟩
  · rw [e]; exact I.funs
  · rw [e]
    obtain ⟨m, hn, _⟩ := I.loc
    refine .cons (by rw [I.ok.kind]; decide) hf hn ?_ I.funs
    exact Heap.get?_none_of_le (Nat.le_trans I.ok.bsz I.ok.above)
theorem Inv.stkSub (I : Inv X pins σ H s) : ∀ b ∈ frs X.stack, b ∈ X.env.locals :: X.fs := fun b hb => by
  rcases I.ok.stk with e | ⟨e, hf⟩
  · rw [e] at hb; exact List.mem_cons_of_mem _ hb
  · rw [e] at hb
    unfold frs at hb
    rw [List.filterMap_cons, hf] at hb
    exact hb
theorem Inv.stkFree (I : Inv X pins σ H s) : ∀ b ∈ frs X.stack, H b = none := fun b hb => by
  rcases List.mem_cons.mp (I.stkSub b hb) with e | hb
  · rw [e]; exact I.free
  · obtain ⟨_, o, ho, _⟩ := I.ok.funs.mem hb
    exact I.base.free b o ho (I.ok.frf b hb) fun z => I.ok.exfs b z hb

/-- THE STEP: the untracked objects but the frame and the records at ch are kept (the callers' frames up to slots), the frame's map is kept, the new abstract heap is held -/
theorem Inv.step {g' : Array GenState} {t' : Nat} {d' : Drawn} {ch : List Addr} (I : Inv X pins σ H s)
    (hch : ∀ b ∈ ch, (b ∈ X.ex ∨ X.s₀.heap.objs.size ≤ b) ∧ b ≠ X.env.locals ∧ (∀ x c, X.env.cells.lookup x = some c → c ≠ b) ∧ ∀ p ∈ X.pn ++ pins, p.1 ≠ b)
    (keep : ∀ b o, b ≠ X.env.locals → b ∉ X.fs → b ∉ ch → s.heap.get? b = some o → H b = none → h'.get? b = some o)
    (slot : ∀ b o, b ≠ X.env.locals → b ∈ X.fs → b ∉ ch → s.heap.get? b = some o → H b = none → ∃ sl, h'.get? b = some { o with slots := sl }) (free : ∀ b o, b ∉ ch → s.heap.get? b = some o → H b = none → H' b = none)
    (there : ∀ b o, b ∉ ch → s.heap.get? b = some o → ∃ o', h'.get? b = some o')
    (tups : ∀ b xs, H b = some (.tup xs) → H' b = some (.tup xs)) (frzs : ∀ b o u, H b = some (.frz o u) → H' b = some (.frz o u)) (tbls : ∀ b ps, H b = some (.tbl ps) → ∃ more, H' b = some (.tbl (ps ++ more)))
    (ns : ∀ m, s.heap.Ns X.env.locals m → h'.Ns X.env.locals m) (hok : HOk X.prog X.w H' h') (hg : AllBare g') :
    Inv X pins σ H' { s with heap := h', gens := g', drawn := d', toks := t' } := by
  have neL : ∀ b o, X.s₀.heap.get? b = some o → b ≠ X.env.locals := fun b o e => Nat.ne_of_lt (Nat.lt_of_lt_of_le (Heap.lt_size e) I.ok.above)
  have neC : ∀ b o, X.s₀.heap.get? b = some o → b ∉ X.ex → b ∉ ch := fun b o e hx hb => by
    rcases (hch b hb).1 with z | z
    · exact hx z
    · exact absurd (Nat.lt_of_lt_of_le (Heap.lt_size e) z) (Nat.lt_irrefl _)
  have cellK : ∀ x c, X.env.cells.lookup x = some c → ∀ v, s.heap.IsCell c v → h'.IsCell c v := fun x c e v ⟨o, ho, hd⟩ => by
    have nch : c ∉ ch := fun z => (hch c z).2.2.1 x c e rfl
    by_cases hc : c ∈ X.fs
    · obtain ⟨sl, q⟩ := slot c o (I.cne x c e) hc nch ho (I.freeC x c e)
      exact ⟨_, q, hd⟩
    · exact ⟨o, keep c o (I.cne x c e) hc nch ho (I.freeC x c e), hd⟩
  refine ⟨I.ok, I.os, hg, ⟨fun b o e n hb hx => ?_, fun b o e n hb hx => ?_, fun b o e n hx => ?_, fun b o e hx => ?_, fun b xs e => tups b xs (I.base.tups b xs e), fun b o xs e => frzs b o xs (I.base.frzs b o xs e), fun b ps e => ?_⟩, ?_, fun x c e => ?_, ?_, fun x c e => ?_, fun p hp => ?_, hok, I.len⟩
  · exact keep b o (neL b o e) hb (neC b o e hx) (I.base.keep b o e n hb hx) (I.base.free b o e n hx)
  · obtain ⟨sl, e1⟩ := I.base.slot b o e n hb hx
    obtain ⟨sl', e2⟩ := slot b _ (neL b o e) hb (neC b o e hx) e1 (I.base.free b o e n hx)
    exact ⟨sl', e2⟩
  · obtain ⟨o', e1⟩ := I.base.there b o e hx
    exact free b o' (neC b o e hx) e1 (I.base.free b o e n hx)
  · obtain ⟨o', e1⟩ := I.base.there b o e hx
    exact there b o' (neC b o e hx) e1
  · obtain ⟨m1, e1⟩ := I.base.tbls b ps e
    obtain ⟨m2, e2⟩ := tbls b _ e1
    exact ⟨m1 ++ m2, by rw [e2, Array.append_assoc]⟩
  · obtain ⟨m, hn, hl⟩ := I.loc
    refine ⟨m, ns m hn, fun i x v e1 e2 e3 => ?_⟩
    obtain ⟨u, r, l⟩ := hl i x v e1 e2 e3
    refine ⟨u, r, ?_⟩
    rcases l with l | ⟨k, c, e, z⟩
    · exact .inl l
    · exact .inr ⟨k, c, e, cellK x c e _ z⟩
  · obtain ⟨v, z⟩ := I.cell x c e
    exact ⟨v, cellK x c e v z⟩
  · obtain ⟨m, ⟨o, _, _, ho, _⟩, _⟩ := I.loc
    exact free _ o (fun z => (hch _ z).2.1 rfl) ho I.free
  · obtain ⟨v, o, ho, hd⟩ := I.cell x c e
    exact free c o (fun z => (hch c z).2.2.1 x c e rfl) ho (I.freeC x c e)
  · obtain ⟨e, n, ne, nf, d⟩ := I.pin p hp
    have nch : p.1 ∉ ch := fun z => (hch p.1 z).2.2.2 p hp rfl
    exact ⟨keep p.1 p.2 ne nf nch e n, free p.1 p.2 nch e n, ne, nf, d⟩
/-- .. where the frame's own object is kept too -/
theorem Inv.un {t' : Nat} (I : Inv X pins σ H s) (u : Un X.fs [] H H' s.heap h') (hok : HOk X.prog X.w H' h') : Inv X pins σ H' { s with heap := h', toks := t' } := by
  obtain ⟨m, ⟨o, es, ep, ho, r⟩, _⟩ := id I.loc
  obtain ⟨sl, hL⟩ := u.any ho I.free (by simp)
  exact I.step (g' := s.gens) (d' := s.drawn) (ch := []) (fun _ z => nomatch z) (fun b o _ hb _ e n => u.keep b o e n hb (by simp)) (fun b o _ hb _ e n => u.slot b o e n hb (by simp)) (fun b o _ e n => u.free b o e n (by simp)) (fun b o _ e => u.there b o e (by simp)) u.tups u.frzs u.tbls (fun m' hm => by
    obtain ⟨o', es', ep', ho', r'⟩ := hm
    rw [ho] at ho'; cases ho'
    exact ⟨_, es', ep', hL, r'⟩) hok I.bare
/-- behind a call (or a comprehension's block): the slots of this frame may have changed too, the records at ch may have turned -/
theorem Inv.call {g' : Array GenState} {t' : Nat} {d' : Drawn} {ch : List Addr} (I : Inv X pins σ H s) (u : Un (frs X.stack) ch H H' s.heap h') (hok : HOk X.prog X.w H' h') (hg : AllBare g')
    (hch : ∀ b ∈ ch, (b ∈ X.ex ∨ X.s₀.heap.objs.size ≤ b) ∧ b ≠ X.env.locals ∧ (∀ x c, X.env.cells.lookup x = some c → c ≠ b) ∧ ∀ p ∈ X.pn ++ pins, p.1 ≠ b) :
    Inv X pins σ H' { s with heap := h', gens := g', drawn := d', toks := t' } := by
  obtain ⟨m, ⟨o, es, ep, ho, r⟩, _⟩ := id I.loc
  obtain ⟨sl, hL⟩ := u.any ho I.free fun z => (hch _ z).2.1 rfl
  exact I.step (ch := ch) hch (fun b o hL hb hc e n => u.keep b o e n (fun z => (List.mem_cons.mp (I.stkSub b z)).elim hL hb) hc) (fun b o _ _ hc e n => u.any e n hc) (fun b o hc e n => u.free b o e n hc) (fun b o hc e => u.there b o e hc) u.tups u.frzs u.tbls (fun m' hm => by
    obtain ⟨o', es', ep', ho', r'⟩ := hm
    rw [ho] at ho'; cases ho'
    exact ⟨_, es', ep', hL, r'⟩) hok hg
/-- an untracked record of ours (an iterator) has turned -/
theorem Inv.turned {t' : Nat} {it : Addr} (I : Inv X pins σ H s) (k : ∀ b o, b ≠ it → s.heap.get? b = some o → h'.get? b = some o) (hn : H it = none) (hL : it ≠ X.env.locals)
    (h1 : it ∈ X.ex ∨ X.s₀.heap.objs.size ≤ it) (h2 : ∀ x c, X.env.cells.lookup x = some c → c ≠ it) (h3 : ∀ p ∈ X.pn ++ pins, p.1 ≠ it) : Inv X pins σ H { s with heap := h', toks := t' } := by
  have nit : ∀ b u, H b = some u → b ≠ it := fun b u e z => by rw [z, hn] at e; cases e
  refine I.step (g' := s.gens) (d' := s.drawn) (ch := [it]) (fun b hb => ?_) (fun b o _ _ hc e _ => k b o (fun z => hc (by simp [z])) e) (fun b o _ _ hc e _ => ⟨o.slots, k b o (fun z => hc (by simp [z])) e⟩) (fun _ _ _ _ n => n)
    (fun b o hc e => ⟨o, k b o (fun z => hc (by simp [z])) e⟩) (fun _ _ e => e) (fun _ _ _ e => e) (fun b ps e => ⟨#[], by rw [e]; simp⟩) (fun m hm => ?_) (fun b u e => ?_) I.bare
  · have e : b = it := by simpa using hb
    subst e
    exact ⟨h1, hL, h2, h3⟩
  · obtain ⟨o, es, ep, ho, r⟩ := hm
    exact ⟨o, es, ep, k _ o (Ne.symm hL) ho, r⟩
  · refine (I.hok b u e).stay (fun c v hc q => k c v ?_ q) (fun _ q => q) fun _ _ q => q
    rcases hc with z | z
    · rw [z]; exact nit b u e
    · exact nit c _ z
theorem Inv.tok (I : Inv X pins σ H s) (t : Nat) : Inv X pins σ H { s with toks := t } := I.un (h' := s.heap) (t' := t) Un.refl I.hok
/-- all objects kept -/
theorem Inv.kept {t' : Nat} (I : Inv X pins σ H s) (k : ∀ b u, s.heap.get? b = some u → h'.get? b = some u) : Inv X pins σ H { s with heap := h', toks := t' } := I.un (Un.kept k) (I.hok.kept k)
/-- a new object laid and tracked -/
theorem Inv.laid {a : Addr} {o : HO} {t' : Nat} (I : Inv X pins σ H s) (k : ∀ b u, s.heap.get? b = some u → h'.get? b = some u) (hp : s.heap.objs.size ≤ a) (new : ObjOk X.prog X.w (upd H a o) h' a o) :
    Inv X pins σ (upd H a o) { s with heap := h', toks := t' } := I.un (Un.laid k hp (I.hok.fresh hp)) (I.hok.laid k hp new)
/-- an object written -/
theorem Inv.write {x e : Addr} {o : HO} {t' : Nat} (I : Inv X pins σ H s) (mu : Mut (H x)) (he : e = x ∨ H e = some (.own x)) (k : ∀ b u, b ≠ e → s.heap.get? b = some u → h'.get? b = some u) (heo : ∃ u, h'.get? e = some u)
    (new : ObjOk X.prog X.w (upd H x o) h' x o) : Inv X pins σ (upd H x o) { s with heap := h', toks := t' } := I.un (Un.write mu he k heo) (I.hok.write mu he k heo new)
theorem Inv.pins_of {pins' : List (Addr × Obj)} (I : Inv X pins σ H s) (h : ∀ p ∈ pins', s.heap.get? p.1 = some p.2 ∧ H p.1 = none ∧ p.1 ≠ X.env.locals ∧ p.1 ∉ X.fs ∧ ∀ v, p.2.data ≠ .cell v) : Inv X pins' σ H s :=
  ⟨I.ok, I.os, I.bare, I.base, I.loc, I.cell, I.free, I.freeC, fun p hp => (List.mem_append.mp hp).elim (fun z => I.pin p (List.mem_append_left _ z)) (h p), I.hok, I.len⟩

theorem nodup_ix {N : List Str} (hN : N.Nodup) {i j : Nat} {x : Str} (a : N[i]? = some x) (b : N[j]? = some x) : i = j := by
  obtain ⟨h1, e1⟩ := List.getElem?_eq_some_iff.mp a
  obtain ⟨h2, e2⟩ := List.getElem?_eq_some_iff.mp b
  exact (List.getElem_inj hN).mp (e1.trans e2.symm)

/-- a name is stored; what changed -/
theorem store_ok2 {M : Model} {A : Around} {E : Value → Shared → Prop} {i : Nat} {x : Str} {v : V} {u : Value} {Q : Unit → Shared → Prop} (I : Inv X pins σ H s) (hN : X.N.Nodup) (hi : X.N[i]? = some x) (hx : Loc X.env.scope x) (r : RelV v u)
    (h : ∀ s', Inv X pins (σ.set i (some v)) H s' → (∃ a, Heap.SameBut a s.heap s'.heap ∧ (a = X.env.locals ∨ X.env.cells.lookup x = some a)) → Q () s') (hf : X.fn x = true ∨ X.env.scope.names.lookup x = some .local := by first | exact .inl rfl | exact .inr rfl | assumption) : wpAny M A (storeName X.env x u) Q E s := by
  obtain ⟨m, hn, hl⟩ := id I.loc
  have hcls : (X.env.scope.kind == .class || (X.env.scope.kind == .module && X.env.locals != X.env.globals)) = false := by rw [I.ok.kind]; rfl
  have hiσ : i < σ.length := by rw [I.len]; exact (List.getElem?_eq_some_iff.mp hi).1
  have cne := I.cne
  have tracked : ∀ {a : Addr} {h' : Heap}, (∃ o, s.heap.get? a = some o ∧ H a = none) → Heap.SameBut a s.heap h' → HOk X.prog X.w H h' := fun {a h'} ha hs b ob e => by
    obtain ⟨_, _, hfree⟩ := ha
    refine (I.hok b ob e).stay (fun c w' hc q => (hs.2 c ?_).trans q) (fun _ q => q) fun _ _ q => q
    rintro rfl
    rcases hc with rfl | hc
    · rw [hfree] at e; cases e
    · rw [hfree] at hc; cases hc
  rcases hx with hk | hk
  · refine wpAny_storeName_local hk hn (fun h' hn' hs => ?_) hcls
    obtain ⟨oL, _, _, hoL, _⟩ := id hn
    refine h _ ⟨I.ok, I.os, I.bare, ⟨fun b o e n hb hx => ?_, fun b o e n hb hx => ?_, I.base.free, fun b o e hx => ?_, I.base.tups, I.base.frzs, I.base.tbls⟩, ⟨_, hn', fun j y v' e1 e2 e3 => ?_⟩, fun y c e => ?_, I.free, I.freeC, fun p hp => ?_, tracked ⟨oL, hoL, I.free⟩ hs, by simpa using I.len⟩ ⟨_, hs, .inl rfl⟩
    · exact (hs.2 b (Nat.ne_of_lt (Nat.lt_of_lt_of_le (Heap.lt_size e) I.ok.above))).trans (I.base.keep b o e n hb hx)
    · obtain ⟨sl, e1⟩ := I.base.slot b o e n hb hx
      exact ⟨sl, (hs.2 b (Nat.ne_of_lt (Nat.lt_of_lt_of_le (Heap.lt_size e) I.ok.above))).trans e1⟩
    · obtain ⟨o', e1⟩ := I.base.there b o e hx
      exact ⟨o', (hs.2 b (Nat.ne_of_lt (Nat.lt_of_lt_of_le (Heap.lt_size e) I.ok.above))).trans e1⟩
    · by_cases hj : j = i
      · subst hj
        rw [hi] at e1; cases e1
        rw [List.getElem?_set_self hiσ] at e2
        cases e2
        exact ⟨u, r, .inl ⟨hk, by simp⟩⟩
      · rw [List.getElem?_set_ne (Ne.symm hj)] at e2
        obtain ⟨u', r', q⟩ := hl j y v' e1 e2 e3
        refine ⟨u', r', ?_⟩
        rcases q with ⟨k, e⟩ | ⟨k, c, e, z⟩
        · refine .inl ⟨k, ?_⟩
          have : y ≠ x := fun e => hj (nodup_ix hN e1 (e ▸ hi))
          simp [this, e]
        · exact .inr ⟨k, c, e, z.sameBut hs (cne y c e)⟩
    · obtain ⟨w', z⟩ := I.cell y c e
      exact ⟨w', z.sameBut hs (cne y c e)⟩
    · obtain ⟨e, n, ne, nf, d⟩ := I.pin p hp
      exact ⟨(hs.2 p.1 ne).trans e, n, ne, nf, d⟩
  · have hfn : X.fn x = true := by
      rcases hf with z | z
      · exact z
      · rw [z] at hk; cases hk
    obtain ⟨c, hc⟩ := I.ok.has x (.inl hk)
    obtain ⟨w', z⟩ := I.cell x c hc
    refine wpAny_storeName_cell I.ok.kind hk hc z (fun h' hc' hs => ?_)
    obtain ⟨oc, hoc, hocd⟩ := id z
    refine h { s with heap := h' } ⟨I.ok, I.os, I.bare, ⟨fun b o e n hb hx => ?_, fun b o e n hb hx => ?_, I.base.free, fun b o e hx => ?_, I.base.tups, I.base.frzs, I.base.tbls⟩, ⟨m, hn.sameBut hs (Ne.symm (cne x c hc)), fun j y v' e1 e2 e3 => ?_⟩, fun y c' e => ?_, I.free, I.freeC, fun p hp => ?_, tracked ⟨oc, hoc, I.freeC x c hc⟩ hs, by simpa using I.len⟩ ⟨c, hs, .inr hc⟩
    · exact (hs.2 b (Nat.ne_of_lt (Nat.lt_of_lt_of_le (Heap.lt_size e) (I.ok.cab x c hfn hc)))).trans (I.base.keep b o e n hb hx)
    · obtain ⟨sl, e1⟩ := I.base.slot b o e n hb hx
      exact ⟨sl, (hs.2 b (Nat.ne_of_lt (Nat.lt_of_lt_of_le (Heap.lt_size e) (I.ok.cab x c hfn hc)))).trans e1⟩
    · obtain ⟨o', e1⟩ := I.base.there b o e hx
      exact ⟨o', (hs.2 b (Nat.ne_of_lt (Nat.lt_of_lt_of_le (Heap.lt_size e) (I.ok.cab x c hfn hc)))).trans e1⟩
    · by_cases hj : j = i
      · subst hj
        rw [hi] at e1; cases e1
        rw [List.getElem?_set_self hiσ] at e2
        cases e2
        exact ⟨u, r, .inr ⟨.inl hk, c, hc, hc'⟩⟩
      · rw [List.getElem?_set_ne (Ne.symm hj)] at e2
        obtain ⟨u', r', q⟩ := hl j y v' e1 e2 e3
        refine ⟨u', r', ?_⟩
        rcases q with q | ⟨k, c', e, z'⟩
        · exact .inl q
        · refine .inr ⟨k, c', e, z'.sameBut hs ?_⟩
          rintro rfl
          exact hj (nodup_ix hN e1 (I.ok.inj _ _ _ e hc ▸ hi))
    · by_cases hcc : c' = c
      · subst hcc; exact ⟨_, hc'⟩
      · obtain ⟨w2, z2⟩ := I.cell y c' e
        exact ⟨w2, z2.sameBut hs hcc⟩
    · obtain ⟨e, n, ne, nf, d⟩ := I.pin p hp
      refine ⟨(hs.2 p.1 ?_).trans e, n, ne, nf, d⟩
      intro q
      rw [q, hoc] at e
      have q' : oc = p.2 := Option.some.inj e
      exact d w' (by rw [← q']; exact hocd)
theorem store_ok {M : Model} {A : Around} {E : Value → Shared → Prop} {i : Nat} {x : Str} {v : V} {u : Value} {Q : Unit → Shared → Prop} (I : Inv X pins σ H s) (hN : X.N.Nodup) (hi : X.N[i]? = some x) (hx : Loc X.env.scope x) (r : RelV v u)
    (h : ∀ s', Inv X pins (σ.set i (some v)) H s' → Q () s') (hf : X.fn x = true ∨ X.env.scope.names.lookup x = some .local := by first | exact .inl rfl | exact .inr rfl | assumption) : wpAny M A (storeName X.env x u) Q E s :=
  store_ok2 I hN hi hx r (fun s' I' _ => h s' I') hf
/-- behind a call or a block, the state as it is -/
theorem Inv.call' {s' : Shared} {ch : List Addr} (I : Inv X pins σ H s) (ho : s'.os = s.os) (u : Un (frs X.stack) ch H H' s.heap s'.heap) (hok : HOk X.prog X.w H' s'.heap) (hg : AllBare s'.gens)
    (hch : ∀ b ∈ ch, (b ∈ X.ex ∨ X.s₀.heap.objs.size ≤ b) ∧ b ≠ X.env.locals ∧ (∀ x c, X.env.cells.lookup x = some c → c ≠ b) ∧ ∀ p ∈ X.pn ++ pins, p.1 ≠ b) : Inv X pins σ H' s' := by
  obtain ⟨h', g', d', t', o'⟩ := s'
  have e : o' = s.os := ho
  subst e
  exact I.call (g' := g') (t' := t') (d' := d') u hok hg hch
end

/-! ### the judgements -/
/-- an exception: its class, its own dict's address (where it has one), the abstract heap behind it -/
abbrev XK := Value → Option Addr → Hp → Prop
abbrev St := List (Option V)
abbrev VK := V → Hp → Prop
/-- an expression's reading; a test's; an argument list's -/
abbrev TE := St → Hp → VK → Prop
abbrev TT := St → Hp → (Bool → Hp → Prop) → Prop
abbrev TA := St → Hp → (List V → Hp → Prop) → Prop
/-- what is wanted behind a statement -/
structure Ends where
  nx : St → Hp → Prop
  rt : VK
  bk : St → Hp → Prop := fun _ _ => False
  ct : St → Hp → Prop := fun _ _ => False
abbrev TS := Ends → St → Hp → Prop

def EP (X : Cx) (pins : List (Addr × Obj)) (σ : St) (Q : VK) (u : Value) (s' : Shared) : Prop := ∃ v H', Inv X pins σ H' s' ∧ RelV v u ∧ Q v H'
def TP (X : Cx) (pins : List (Addr × Obj)) (σ : St) (Q : Bool → Hp → Prop) (b : Bool) (s' : Shared) : Prop := ∃ H', Inv X pins σ H' s' ∧ Q b H'
def AP (X : Cx) (pins : List (Addr × Obj)) (σ : St) (Q : List V → Hp → Prop) (us : List Value) (s' : Shared) : Prop := ∃ vs H', Inv X pins σ H' s' ∧ Vals vs us ∧ Q vs H'
def SP (X : Cx) (pins : List (Addr × Obj)) (D : Ends) (f : Flow) (s' : Shared) : Prop :=
  match f with
  | .next => ∃ σ' H', Inv X pins σ' H' s' ∧ D.nx σ' H'
  | .brk => ∃ σ' H', Inv X pins σ' H' s' ∧ D.bk σ' H'
  | .cont => ∃ σ' H', Inv X pins σ' H' s' ∧ D.ct σ' H'
  | .ret u => ∃ v σ' H', Inv X pins σ' H' s' ∧ RelV v u ∧ D.rt v H'

def PE (X : Cx) (e : Expr) (t : TE) : Prop :=
  ∀ (pins : List (Addr × Obj)) (s : Shared) (σ : St) (H : Hp) (Q : VK), Inv X pins σ H s → t σ H Q → wpAny (model X.prog X.w) X.A (eval e X.env) (EP X pins σ Q) X.xe s
def PT (X : Cx) (e : Expr) (t : TT) : Prop :=
  ∀ (pins : List (Addr × Obj)) (s : Shared) (σ : St) (H : Hp) (Q : Bool → Hp → Prop), Inv X pins σ H s → t σ H Q → wpAny (model X.prog X.w) X.A (isTrue e X.env (eval e X.env)) (TP X pins σ Q) X.xe s
/-- a test whatever its 'whole' is (and, or) -/
def PW (X : Cx) (e : Expr) (t : TT) : Prop :=
  ∀ (whole : Sem Value) (pins : List (Addr × Obj)) (s : Shared) (σ : St) (H : Hp) (Q : Bool → Hp → Prop), Inv X pins σ H s → t σ H Q → wpAny (model X.prog X.w) X.A (isTrue e X.env whole) (TP X pins σ Q) X.xe s
theorem PW.pt {X : Cx} {e : Expr} {t : TT} (h : PW X e t) : PT X e t := h _
/-- an argument list (no star), from the left -/
def PA (X : Cx) (es : List Expr) (t : TA) : Prop :=
  ∀ (pos : Pos) (pins : List (Addr × Obj)) (s : Shared) (σ : St) (H : Hp) (Q : List V → Hp → Prop), Inv X pins σ H s → t σ H Q → wpAny (model X.prog X.w) X.A (spliced (backTo pos (starEach es X.env))) (AP X pins σ Q) X.xe s
def PS (X : Cx) (st : Stmt) (t : TS) : Prop :=
  ∀ (pins : List (Addr × Obj)) (s : Shared) (σ : St) (H : Hp) (D : Ends), Inv X pins σ H s → t D σ H → wpAny (model X.prog X.w) X.A (exec st X.env) (SP X pins D) X.xe s
def PSs (X : Cx) (st : List Stmt) (t : TS) : Prop :=
  ∀ (pins : List (Addr × Obj)) (s : Shared) (σ : St) (H : Hp) (D : Ends), Inv X pins σ H s → t D σ H → wpAny (model X.prog X.w) X.A (execs st X.env) (SP X pins D) X.xe s
/-- weaken the end -/
theorem thn {α : Type} {t : Sem α} {Q Q' : α → Shared → Prop} {M : Model} {A : Around} {E : Value → Shared → Prop} {s : Shared} (h : wpAny M A t Q E s) (hQ : ∀ a s, Q a s → Q' a s) : wpAny M A t Q' E s := wpAny_mono h hQ fun _ _ x => x
end L2

namespace L2
open PySem PySem.Spec PyProof.Rows
section
variable {X : Cx}

/-! ### names and constants -/
def tVar (i : Nat) : TE := fun σ H Q => ∃ v, σ[i]? = some (some v) ∧ Q v H
def tC (v : V) : TE := fun _ H Q => Q v H
theorem pe_var {i : Nat} {x : Str} {pos : Pos} (hN : X.N[i]? = some x) (hv : Vis X.env.scope x) (hd : (x == ("__debug__" : Str)) = false := by decide) (hcd : (x == ("__classdict__" : Str)) = false := by decide) : PE X (.Name x pos) (tVar i) := by
  intro pins s σ H Q I h
  obtain ⟨v, e, h⟩ := h
  obtain ⟨m, hn, hl⟩ := I.loc
  obtain ⟨u, r, l⟩ := hl i x v hN e hv
  have fin : EP X pins σ Q u s := ⟨v, H, I, r, h⟩
  rcases l with ⟨hk, hm⟩ | ⟨hk, c, hc, hcell⟩
  · exact wpAny_Name (wpAny_loadName_local I.ok.kind hk hn hm fin) hd
  · rcases hk with hk | hk
    · exact wpAny_Name (wpAny_loadName_cell I.ok.kind hk hc hcell fin) hd
    · exact wpAny_Name (wpAny_loadName_free I.ok.kind hk hc hcell fin hcd) hd
theorem pe_int {i j pos} : PE X (.Constant (.int i) j pos) (tC (.int i)) := fun _ _ _ H _ I h => wpAny_Constant_int ⟨.int i, H, I.tok _, ⟨_, rfl⟩, h⟩
theorem pe_bl {b j pos} : PE X (.Constant (.bool b) j pos) (tC (.bl b)) := fun _ _ _ H _ I h => Constant_bool ⟨.bl b, H, I, rfl, h⟩
theorem pe_non {j pos} : PE X (.Constant .none j pos) (tC .non) := fun _ _ _ H _ I h => Constant_none ⟨.non, H, I, rfl, h⟩
theorem pe_str {x j pos} : PE X (.Constant (.str x) j pos) (tC (.str x)) := fun _ _ _ H _ I h => Calls.Constant_str ⟨.str x, H, I.tok _, ⟨_, rfl⟩, h⟩

/-- a global name of the def -/
def Gl (X : Cx) (x : Str) : Prop := X.env.kindOf x = some .globalImplicit
theorem ld_glob {E : Value → Shared → Prop} {pins : List (Addr × Obj)} {s : Shared} {σ : St} {H : Hp} {x : Str} {u : Value} {pos : Pos} {Q : Value → Shared → Prop} (I : Inv X pins σ H s) (hg : Gl X x) (hm : X.mg x = some u) (h : Q u s)
    (hd : (x == ("__debug__" : Str)) = false := by decide) : wpAny (model X.prog X.w) X.A (eval (.Name x pos) X.env) Q E s :=
  Calls.Name_function_global I.ok.kind hg (Calls.loadGlobal_global (by rw [I.ok.glob]; exact I.mod.glob.keeps I.bk) hm h) hd
theorem ld_blt {E : Value → Shared → Prop} {pins : List (Addr × Obj)} {s : Shared} {σ : St} {H : Hp} {x : Str} {u : Value} {pos : Pos} {Q : Value → Shared → Prop} (I : Inv X pins σ H s) (hg : Gl X x) (hm : X.mg x = none) (hv : bootBuiltins x = some u) (h : Q u s)
    (hn : x ≠ "__name__" := by decide) (hd : (x == ("__debug__" : Str)) = false := by decide) : wpAny (model X.prog X.w) X.A (eval (.Name x pos) X.env) Q E s := by
  obtain ⟨mb, h1, h2⟩ := I.mod.blt
  exact Calls.Name_function_global I.ok.kind hg (Calls.loadGlobal_builtin (by rw [I.ok.glob]; exact I.mod.glob.keeps I.bk) hm (by rw [I.ok.blt]; exact h1.keeps I.bk) ((h2 x hn).trans hv) h) hd
/-- a module's constant, a class, a function, as a value -/
theorem pe_glob {x : Str} {v : V} {u : Value} {pos : Pos} (hg : Gl X x) (hm : X.mg x = some u) (r : RelV v u) (hd : (x == ("__debug__" : Str)) = false := by decide) : PE X (.Name x pos) (tC v) :=
  fun _ _ _ H _ I h => ld_glob I hg hm ⟨v, H, I, r, h⟩ hd
theorem pe_bltn {x : Str} {v : V} {u : Value} {pos : Pos} (hg : Gl X x) (hm : X.mg x = none) (hv : bootBuiltins x = some u) (r : RelV v u) (hn : x ≠ "__name__" := by decide) (hd : (x == ("__debug__" : Str)) = false := by decide) : PE X (.Name x pos) (tC v) :=
  fun _ _ _ H _ I h => ld_blt I hg hm hv ⟨v, H, I, r, h⟩ hn hd

/-! ### arithmetic -/
variable {a b : Expr} {ta tb : TE} {pos : Pos}
/-! ### comparisons -/
def PC (X : Cx) (op : CmpOp) (a b : Expr) (t : TE) : Prop :=
  ∀ (pins : List (Addr × Obj)) (s : Shared) (σ : St) (H : Hp) (Q : VK), Inv X pins σ H s → t σ H Q →
    wpAny (model X.prog X.w) X.A (eval a X.env) (fun v s₁ => wpAny (model X.prog X.w) X.A (eval b X.env) (fun u s₂ => wpAny (model X.prog X.w) X.A (compareOp op v u) (EP X pins σ Q) X.xe s₂) X.xe s₁) X.xe s
theorem nobehind (b : Expr) {op : CmpOp} (h : op ≠ .In) (h2 : op ≠ .NotIn) : behindInMarks op b = false := by
  have e1 : (op == CmpOp.In) = false := by cases op <;> first | rfl | exact absurd rfl h
  have e2 : (op == CmpOp.NotIn) = false := by cases op <;> first | rfl | exact absurd rfl h2
  cases b <;> simp [behindInMarks, e1, e2]
/-- a comparison as a value, as a test -/
def tB (t : TE) : TT := fun σ H Q => t σ H fun x H1 => ∃ c, x = .bl c ∧ Q c H1
theorem pt_cmp {op : CmpOp} {t : TE} (h : PC X op a b t) (h1 : behindInMarks op b = false := by first | exact nobehind _ (by decide) (by decide) | rfl) : PT X (.Compare a [op] [b] pos) (tB t) := by
  intro pins s σ H Q I hw
  refine wpAny_isTrue_Compare1 (thn (h pins s σ H _ I hw) fun v s1 h1 => thn h1 fun u s2 h2 => thn h2 fun c s3 ⟨x, H1, I1, r1, q1⟩ => ?_) h1
  obtain ⟨d, rfl, q⟩ := q1
  cases r1
  exact wpAny_truthy_bool ⟨H1, I1, q⟩
/-- an expression whose value is a bool, as a test -/
theorem pt_val {e : Expr} {t : TE} (h : PE X e t) (he : ∀ whole, isTrue e X.env whole = (do let v ← whole; standAt e.pos; holding [v] (truthy v)) := by intro _; rfl) : PT X e (tB t) := by
  intro pins s σ H Q I hw
  refine isTrue_plain (thn (h pins s σ H _ I hw) fun v s1 ⟨x, H1, I1, r1, q1⟩ => ?_) (he _)
  obtain ⟨d, rfl, q⟩ := q1
  cases r1
  exact wpAny_truthy_bool ⟨H1, I1, q⟩

/-! ### and, or, not -/
variable {tA tB' : TT} {rest : List Expr}
def tAnd (t u : TT) : TT := fun σ H Q => t σ H fun c H1 => if c = true then u σ H1 Q else Q false H1
def tOr (t u : TT) : TT := fun σ H Q => t σ H fun c H1 => if c = true then Q true H1 else u σ H1 Q
def tNot (t : TT) : TT := fun σ H Q => t σ H fun c H1 => Q (!c) H1
theorem pw_and1 (ha : PT X a tA) : PW X (.BoolOp .And [a] pos) tA := by
  intro wh pins s σ H Q I h
  refine isTrue_and (thn (ha pins s σ H Q I h) fun c s1 e => ?_)
  cases c with
  | true => exact isTrue_and_nil e
  | false => exact e
theorem pw_or1 (ha : PT X a tA) : PW X (.BoolOp .Or [a] pos) tA := by
  intro wh pins s σ H Q I h
  refine isTrue_or (thn (ha pins s σ H Q I h) fun c s1 e => ?_)
  cases c with
  | false => exact isTrue_or_nil e
  | true => exact e
theorem pw_and (ha : PT X a tA) (hb : PW X (.BoolOp .And (b :: rest) pos) tB') : PW X (.BoolOp .And (a :: b :: rest) pos) (tAnd tA tB') := by
  intro wh pins s σ H Q I h
  refine isTrue_and (thn (ha pins s σ H _ I h) fun c s1 ⟨H1, I1, q1⟩ => ?_)
  cases c with
  | true => exact hb wh pins s1 σ H1 Q I1 q1
  | false => exact ⟨H1, I1, q1⟩
theorem pw_or (ha : PT X a tA) (hb : PW X (.BoolOp .Or (b :: rest) pos) tB') : PW X (.BoolOp .Or (a :: b :: rest) pos) (tOr tA tB') := by
  intro wh pins s σ H Q I h
  refine isTrue_or (thn (ha pins s σ H _ I h) fun c s1 ⟨H1, I1, q1⟩ => ?_)
  cases c with
  | true => exact ⟨H1, I1, q1⟩
  | false => exact hb wh pins s1 σ H1 Q I1 q1
theorem pt_not (ha : PT X a tA) : PT X (.UnaryOp .Not a pos) (tNot tA) := by
  intro pins s σ H Q I h
  exact isTrue_not (ha pins s σ H (fun c H1 => Q (!c) H1) I h)
/-- .. as values (bools) -/
def tAndV (ta tb : TE) : TE := fun σ H Q => ta σ H fun x H1 => ∃ c, x = .bl c ∧ if c = true then tb σ H1 Q else Q (.bl false) H1
def tOrV (ta tb : TE) : TE := fun σ H Q => ta σ H fun x H1 => ∃ c, x = .bl c ∧ if c = true then Q (.bl true) H1 else tb σ H1 Q
def tNotV (ta : TE) : TE := fun σ H Q => ta σ H fun x H1 => ∃ c, x = .bl c ∧ Q (.bl (!c)) H1
theorem pe_one {op} {t : TE} (h : PE X a t) : PE X (.BoolOp op [a] pos) t := fun pins s σ H Q I hw => BoolOp_one (h pins s σ H Q I hw)
theorem pe_and (ha : PE X a ta) (hb : PE X (.BoolOp .And (b :: rest) pos) tb) : PE X (.BoolOp .And (a :: b :: rest) pos) (tAndV ta tb) := by
  intro pins s σ H Q I h
  refine BoolOp_and (thn (ha pins s σ H _ I h) fun v s1 ⟨x, H1, I1, r1, q1⟩ => ?_)
  obtain ⟨c, rfl, q1⟩ := q1
  cases r1
  refine wpAny_truthy_bool ?_
  cases c with
  | true => exact hb pins s1 σ H1 Q I1 q1
  | false => exact ⟨.bl false, H1, I1, rfl, q1⟩
theorem pe_or (ha : PE X a ta) (hb : PE X (.BoolOp .Or (b :: rest) pos) tb) : PE X (.BoolOp .Or (a :: b :: rest) pos) (tOrV ta tb) := by
  intro pins s σ H Q I h
  refine BoolOp_or (thn (ha pins s σ H _ I h) fun v s1 ⟨x, H1, I1, r1, q1⟩ => ?_)
  obtain ⟨c, rfl, q1⟩ := q1
  cases r1
  refine wpAny_truthy_bool ?_
  cases c with
  | false => exact hb pins s1 σ H1 Q I1 q1
  | true => exact ⟨.bl true, H1, I1, rfl, q1⟩
theorem pe_not (ha : PE X a ta) : PE X (.UnaryOp .Not a pos) (tNotV ta) := by
  intro pins s σ H Q I h
  refine UnaryOp_ (thn (ha pins s σ H _ I h) fun v s1 ⟨x, H1, I1, r1, q1⟩ => ?_)
  obtain ⟨c, rfl, q1⟩ := q1
  cases r1
  exact not_of (wpAny_truthy_bool ⟨.bl (!c), H1, I1, rfl, q1⟩)
end
end L2

namespace L2
open PySem PySem.Spec PyProof.Rows

/-! ### a list, a tuple that is read: tracked, frozen, or an object of the module -/
def SqL (K : PySem.W.Frag) (H : Hp) (a : Addr) (xs : List V) : Prop :=
  Rd H a (.lst xs) ∨
    ∃ (o : Obj) (its : Array Value) (n : Nat), K.lookup a = some o ∧ o.cls = .type "list" ∧ o.dict = none ∧ o.data = .seq its n ∧ its.size ≤ sizeLine ∧ Vals xs its.toList
def SqT (K : PySem.W.Frag) (H : Hp) (a : Addr) (xs : List V) : Prop :=
  Rd H a (.tup xs) ∨
    ∃ (o : Obj) (its : Array Value) (n : Nat), K.lookup a = some o ∧ o.cls = .type "tuple" ∧ o.data = .seq its n ∧ its.size ≤ sizeLine ∧ Vals xs its.toList
def absV : Value → Option V
  | .none => some .non
  | .bool b => some (.bl b)
  | .int i _ => some (.int i)
  | .str x _ => some (.str x)
  | .bytes b _ => some (.byt b)
  | .float b _ => some (.flt b)
  | .ref a => some (.ref a)
  | .type n => some (.ty n)
  | _ => none
theorem RelV.abs {x : V} {u : Value} (r : RelV x u) : absV u = some x := by
  cases x with
  | non => cases r; rfl
  | bl _ => cases r; rfl
  | int _ => obtain ⟨t, rfl⟩ := r; rfl
  | str _ => obtain ⟨t, rfl⟩ := r; rfl
  | byt _ => obtain ⟨t, rfl⟩ := r; rfl
  | flt _ => obtain ⟨t, rfl⟩ := r; rfl
  | ref _ => cases r; rfl
  | ty _ => cases r; rfl
theorem RelV.inj {x y : V} {u : Value} (r : RelV x u) (q : RelV y u) : x = y := Option.some.inj (r.abs.symm.trans q.abs)
theorem Vals.inj {xs ys : List V} {us : List Value} (h : Vals xs us) (h' : Vals ys us) : xs = ys := by
  induction h generalizing ys with
  | nil => cases h'; rfl
  | cons r t ih => cases h' with
    | cons r' t' => rw [r.inj r', ih t']
section
variable {X : Cx} {pins : List (Addr × Obj)} {σ : St} {H : Hp} {s : Shared} {a : Addr} {xs ys : List V}
theorem SqL.of {K : PySem.W.Frag} (h : H a = some (.lst xs)) : SqL K H a xs := .inl (.inl h)
theorem SqT.of {K : PySem.W.Frag} (h : H a = some (.tup xs)) : SqT K H a xs := .inl (.inl h)
theorem Inv.list (I : Inv X pins σ H s) (h : SqL X.K H a xs) : ∃ its : List Value, Vals xs its ∧ PlainL s.heap a its.toArray ∧ xs.length ≤ sizeLine := by
  rcases h with h | ⟨o, its, n, hk, hc, hd, hs, hz, r⟩
  · obtain ⟨z, its, n, r, e⟩ := h.ok I.hok
    exact ⟨its, r, ⟨_, n, e, rfl, rfl, rfl⟩, z⟩
  · refine ⟨its.toList, r, ⟨o, n, I.kIn a o hk, hc, hd, by simpa using hs⟩, ?_⟩
    have e := r.length
    simp only [Array.length_toList] at e
    omega
theorem Inv.tuple (I : Inv X pins σ H s) (h : SqT X.K H a xs) : ∃ its : List Value, Vals xs its ∧ IsTup s.heap a its.toArray ∧ xs.length ≤ sizeLine := by
  rcases h with h | ⟨o, its, n, hk, hc, hs, hz, r⟩
  · obtain ⟨z, its, r, p⟩ := h.ok I.hok
    exact ⟨its, r, p, z⟩
  · refine ⟨its.toList, r, ⟨o, I.kIn a o hk, hc, n, by simpa using hs⟩, ?_⟩
    have e := r.length
    simp only [Array.length_toList] at e
    omega
theorem Inv.list_inj (I : Inv X pins σ H s) (h : SqL X.K H a xs) (h' : SqL X.K H a ys) : xs = ys := by
  obtain ⟨its, r, ⟨o, n, e, _, _, d⟩, _⟩ := I.list h
  obtain ⟨its', r', ⟨o', n', e', _, _, d'⟩, _⟩ := I.list h'
  rw [e] at e'; cases e'
  rw [d] at d'
  injection d' with d1 _
  have : its = its' := by simpa using congrArg Array.toList d1
  subst this
  exact r.inj r'
theorem Inv.tuple_inj (I : Inv X pins σ H s) (h : SqT X.K H a xs) (h' : SqT X.K H a ys) : xs = ys := by
  obtain ⟨its, r, ⟨o, e, _, n, d⟩, _⟩ := I.tuple h
  obtain ⟨its', r', ⟨o', e', _, n', d'⟩, _⟩ := I.tuple h'
  rw [e] at e'; cases e'
  rw [d] at d'
  injection d' with d1 _
  have : its = its' := by simpa using congrArg Array.toList d1
  subst this
  exact r.inj r'
end

/-! ### another wish about exceptions -/
abbrev Cx.wish (X : Cx) (E : Value → Shared → Prop) : Cx := { X with xe := E }
/-- no exception leaves -/
abbrev Cx.nox (X : Cx) : Cx := X.wish fun _ _ => False
theorem Cx.Ok.wish {X : Cx} (ok : X.Ok) (E : Value → Shared → Prop) : (X.wish E).Ok :=
  ⟨ok.mod, ok.kind, ok.glob, ok.blt, ok.above, ok.inj, ok.has, ok.cab, ok.hd, ok.frames, ok.stk, ok.exf, ok.bs, ok.bsz, ok.noex, ok.exfs, ok.funs, ok.frf⟩
theorem Cx.Ok.unwish {X : Cx} {E : Value → Shared → Prop} (ok : (X.wish E).Ok) : X.Ok :=
  ⟨ok.mod, ok.kind, ok.glob, ok.blt, ok.above, ok.inj, ok.has, ok.cab, ok.hd, ok.frames, ok.stk, ok.exf, ok.bs, ok.bsz, ok.noex, ok.exfs, ok.funs, ok.frf⟩
section
variable {X : Cx} {pins : List (Addr × Obj)} {σ : St} {H : Hp} {s : Shared} {E : Value → Shared → Prop}
theorem Inv.wish (I : Inv X pins σ H s) (E : Value → Shared → Prop) : Inv (X.wish E) pins σ H s := ⟨I.ok.wish E, I.os, I.bare, I.base, I.loc, I.cell, I.free, I.freeC, I.pin, I.hok, I.len⟩
theorem Inv.unwish (I : Inv (X.wish E) pins σ H s) : Inv X pins σ H s := ⟨I.ok.unwish, I.os, I.bare, I.base, I.loc, I.cell, I.free, I.freeC, I.pin, I.hok, I.len⟩
theorem SP.unwish {D : Ends} {f : Flow} {s' : Shared} (h : SP (X.wish E) pins D f s') : SP X pins D f s' := by
  cases f with
  | next => obtain ⟨σ', H', I, q⟩ := h; exact ⟨σ', H', I.unwish, q⟩
  | brk => obtain ⟨σ', H', I, q⟩ := h; exact ⟨σ', H', I.unwish, q⟩
  | cont => obtain ⟨σ', H', I, q⟩ := h; exact ⟨σ', H', I.unwish, q⟩
  | ret u => obtain ⟨v, σ', H', I, r, q⟩ := h; exact ⟨v, σ', H', I.unwish, r, q⟩
theorem PSs.nox {st : List Stmt} {t : TS} (h : PSs X.nox st t) : PSs X st t := fun pins s σ H D I hw =>
  wpAny_mono (h pins s σ H D (I.wish _) hw) (fun _ _ q => q.unwish) fun _ _ z => False.elim z
end

/-! ### blocks and small statements -/
section
variable {X : Cx} {st : Stmt} {rest : List Stmt} {t u : TS} {e : Expr} {te : TE} {pos : Pos}
def tNext : TS := fun D σ H => D.nx σ H
def tSeq (t u : TS) : TS := fun D σ H => t { D with nx := u D } σ H
theorem pss_nil : PSs X [] tNext := fun _ _ σ H _ I h => wpAny_execs_nil ⟨σ, H, I, h⟩
theorem pss_cons (h1 : PS X st t) (h2 : PSs X rest u) : PSs X (st :: rest) (tSeq t u) := by
  intro pins s σ H D I h
  refine wpAny_execs_cons (thn (h1 pins s σ H { D with nx := u D } I h) fun f s1 q => ?_)
  cases f with
  | next =>
    obtain ⟨σ', H', I', q⟩ := q
    exact h2 pins s1 σ' H' D I' q
  | ret v => exact q
  | brk => exact q
  | cont => exact q
theorem pss_one (h1 : PS X st t) : PSs X [st] t := by
  intro pins s σ H D I h
  refine wpAny_execs_cons (thn (h1 pins s σ H D I h) fun f s1 q => ?_)
  cases f with
  | next => exact wpAny_execs_nil q
  | ret v => exact q
  | brk => exact q
  | cont => exact q
/-- in a def's body nothing is shown -/
theorem Inv.quiet {pins : List (Addr × Obj)} {σ : St} {H : Hp} {s : Shared} (I : Inv X pins σ H s) : interactive X.env = false := by simp [interactive, I.ok.kind]
/-- an expression whose value is dropped -/
def tDrop (te : TE) : TS := fun D σ H => te σ H fun _ H1 => D.nx σ H1
theorem ps_expr (he : PE X e te) (hs : swapsWith e none pos.line X.env = pure false := by rfl) : PS X (.Expr e pos) (tDrop te) := by
  intro pins s σ H D I h
  exact wpAny_Expr_any (thn (he pins s σ H _ I h) fun v s1 ⟨x, H1, I1, r1, q1⟩ => ⟨σ, H1, I1, q1⟩) I.quiet hs
def tRet (te : TE) : TS := fun D σ H => te σ H D.rt
theorem ps_ret (he : PE X e te) : PS X (.Return (some e) pos) (tRet te) := by
  intro pins s σ H D I h
  exact wpAny_Return_some (thn (he pins s σ H _ I h) fun v s1 ⟨x, H1, I1, r1, q1⟩ => ⟨x, σ, H1, I1, r1, q1⟩)
def tIfS (c : TT) (t u : TS) : TS := fun D σ H => c σ H fun b H1 => if b = true then t D σ H1 else u D σ H1
theorem ps_if {c : Expr} {a b : List Stmt} {tc : TT} (hc : PT X c tc) (ha : PSs X a t) (hb : PSs X b u) : PS X (.If c a b pos) (tIfS tc t u) := by
  intro pins s σ H D I h
  refine wpAny_If (thn (hc pins s σ H _ I h) fun d s1 ⟨H1, I1, q1⟩ => ?_)
  cases d with
  | true => exact ha pins s1 σ H1 D I1 q1
  | false => exact hb pins s1 σ H1 D I1 q1
end

/-! ### targets -/
abbrev TG := V → St → Hp → (St → Hp → Prop) → Prop
abbrev TGs := List V → St → Hp → (St → Hp → Prop) → Prop
def PG (X : Cx) (target : Expr) (t : TG) : Prop :=
  ∀ (pins : List (Addr × Obj)) (s : Shared) (σ : St) (H : Hp) (v : V) (u : Value) (Q : St → Hp → Prop), Inv X pins σ H s → RelV v u → t v σ H Q →
    wpAny (model X.prog X.w) X.A (assign target X.env u) (fun _ s' => ∃ σ' H', Inv X pins σ' H' s' ∧ Q σ' H') X.xe s
/-- several targets, one after another -/
def PGs (X : Cx) (ts : List Expr) (t : TGs) : Prop :=
  ∀ (pins : List (Addr × Obj)) (s : Shared) (σ : St) (H : Hp) (vs : List V) (us : List Value) (Q : St → Hp → Prop), Inv X pins σ H s → Vals vs us → t vs σ H Q →
    wpAny (model X.prog X.w) X.A (assignInOrder ((assignEach ts X.env).map (·.2)) us) (fun _ s' => ∃ σ' H', Inv X pins σ' H' s' ∧ Q σ' H') X.xe s
/-- o[i] = v, by values -/
abbrev TSet := V → V → V → Hp → (Hp → Prop) → Prop
def PSet (X : Cx) (t : TSet) : Prop :=
  ∀ (pins : List (Addr × Obj)) (s : Shared) (σ : St) (H : Hp) (o i v : V) (ov iv u : Value) (Q : Hp → Prop), Inv X pins σ H s → RelV o ov → RelV i iv → RelV v u → t o i v H Q →
    wpAny (model X.prog X.w) X.A (setItem ov iv u) (fun _ s' => ∃ H', Inv X pins σ H' s' ∧ Q H') X.xe s
section
variable {X : Cx} {pos : Pos}
def gName (i : Nat) : TG := fun v σ H Q => Q (σ.set i (some v)) H
theorem pg_name {i : Nat} {x : Str} (hN : X.N.Nodup) (hi : X.N[i]? = some x) (hx : Loc X.env.scope x) (hf : X.fn x = true ∨ X.env.scope.names.lookup x = some .local := by first | exact .inl rfl | exact .inr rfl | assumption) : PG X (.Name x pos) (gName i) := by
  intro pins s σ H v u Q I r h
  exact wpAny_assign_Name (store_ok I hN hi hx r (fun s' I' => ⟨_, H, I', h⟩) hf)
def gNil : TGs := fun vs σ H Q => vs = [] ∧ Q σ H
def gCons (t : TG) (u : TGs) : TGs := fun vs σ H Q => ∃ v r, vs = v :: r ∧ t v σ H fun σ' H' => u r σ' H' Q
theorem pgs_nil : PGs X [] gNil := by
  intro pins s σ H vs us Q I r h
  obtain ⟨e, h⟩ := h
  subst e
  cases r
  exact assignInOrder_nil ⟨σ, H, I, h⟩
theorem pgs_cons {e : Expr} {es : List Expr} {t : TG} {u : TGs} (h1 : PG X e t) (h2 : PGs X es u)
    (hs : (assignEach (e :: es) X.env).map (·.2) = assign e X.env :: (assignEach es X.env).map (·.2) := by rfl) : PGs X (e :: es) (gCons t u) := by
  intro pins s σ H vs us Q I r h
  obtain ⟨v, vr, e1, h⟩ := h
  subst e1
  cases r with
  | cons r rr =>
    rw [hs]
    refine assignInOrder_cons (thn (h1 pins s σ H _ _ _ I r h) fun _ s1 ⟨σ1, H1, I1, q1⟩ => ?_)
    exact h2 pins s1 σ1 H1 _ _ Q I1 rr q1
/-- (a, b, ..) = a tuple of that length -/
def gTup (K : PySem.W.Frag) (n : Nat) (t : TGs) : TG := fun v σ H Q => ∃ a xs, v = .ref a ∧ SqT K H a xs ∧ xs.length = n ∧ t xs σ H Q
theorem pg_tup {es : List Expr} {k : Nat} {t : TGs} {n : Nat} (hc : X.calm = true) (h : PGs X es t)
    (hn : (assignEach es X.env).length = n := by rfl) (hst : (assignEach es X.env).findIdx? (·.1) = none := by rfl) : PG X (.Tuple es k pos) (gTup X.K n t) := by
  intro pins s σ H v u Q I r hw
  obtain ⟨a, xs, e1, hq, hl, hw⟩ := hw
  subst e1
  cases r
  obtain ⟨its, rv, ht, hz⟩ := I.tuple hq
  refine assign_Tuple_tuple (I.ok.hd hc) ht (by simp [hn, ← hl, rv.length]) hst fun h' hx => ?_
  have I1 : Inv X pins σ H { s with heap := h' } := I.kept (t' := s.toks) fun b o e => hx b o (Nat.ne_of_lt (Heap.lt_size e)) e
  exact h pins _ σ H xs _ Q I1 (by simpa using rv) hw
/-- o[i] = .. -/
def gSub (to ti : TE) (t : TSet) : TG := fun v σ H Q => to σ H fun o H1 => ti σ H1 fun i H2 => t o i v H2 fun H3 => Q σ H3
theorem pg_sub {o i : Expr} {to ti : TE} {t : TSet} (ho : PE X o to) (hi : PE X i ti) (hs : PSet X t)
    (ha : ∀ v, assign (.Subscript o i pos) X.env v = (do
      let ov ← holding [v] (eval o X.env)
      let iv ← holding [v, ov] (eval i X.env)
      standAt pos
      holding [v, ov, iv] (setItem ov iv v)
      release [v, ov, iv] []) := by intro _; rfl) : PG X (.Subscript o i pos) (gSub to ti t) := by
  intro pins s σ H v u Q I r h
  rw [ha]
  refine wpAny_bind (wpAny_holding (thn (ho pins s σ H _ I h) fun ov s1 ⟨x, H1, I1, r1, q1⟩ => ?_))
  refine wpAny_bind (wpAny_holding (thn (hi pins s1 σ H1 _ I1 q1) fun iv s2 ⟨y, H2, I2, r2, q2⟩ => ?_))
  refine wpAny_bind (wpAny_standAt (wpAny_bind (wpAny_holding (thn (hs pins s2 σ H2 x y v ov iv u _ I2 r1 r2 r q2) fun _ s3 ⟨H3, I3, q3⟩ => ?_))))
  exact wpAny_release ⟨σ, H3, I3, q3⟩
/-- target = value -/
def tAsg (te : TE) (g : TG) : TS := fun D σ H => te σ H fun x H1 => g x σ H1 D.nx
theorem ps_asg {tg e : Expr} {te : TE} {g : TG} (he : PE X e te) (hg : PG X tg g) (hs : swapsWithSole [tg] e pos.line X.env = pure false := by rfl) (hw : swappedStores [tg] e X.env = pure none := by rfl)
    (h1 : (assignEach [tg] X.env).map (·.2) = [assign tg X.env] := by rfl) : PS X (.Assign [tg] e pos) (tAsg te g) := by
  intro pins s σ H D I h
  refine wpAny_Assign_stores (thn (he pins s σ H _ I h) fun v s1 ⟨x, H1, I1, r1, q1⟩ => ?_) hs hw
  rw [h1]
  exact thn (hg pins s1 σ H1 x v _ I1 r1 q1) fun _ s2 q => q
/-- name = value -/
theorem ps_set {i : Nat} {x : Str} {e : Expr} {te : TE} {pos' : Pos} (hN : X.N.Nodup) (hi : X.N[i]? = some x) (hx : Loc X.env.scope x) (he : PE X e te) (hs : swapsWith e (some (.Name x pos')) pos.line X.env = pure false := by rfl) (hf : X.fn x = true ∨ X.env.scope.names.lookup x = some .local := by first | exact .inl rfl | exact .inr rfl | assumption) :
    PS X (.Assign [.Name x pos'] e pos) (tAsg te (gName i)) := by
  intro pins s σ H D I h
  refine wpAny_Assign_Name (thn (he pins s σ H _ I h) fun v s1 ⟨y, H1, I1, r1, q1⟩ => ?_) hs
  exact store_ok I1 hN hi hx r1 (fun s2 I2 => ⟨_, H1, I2, q1⟩) hf
end

/-! ### while -/
section
variable {X : Cx} {pos : Pos}
end

/-! ### what a loop or a comprehension walks -/
/-- at turn i: it yields x (the heap may grow), or it stops -/
structure It where
  go : Nat → Hp → Prop
  yld : Nat → Hp → V → Hp → Prop
  stop : Nat → Hp → Prop
/-- the iterator's own objects may turn: they are not the frame's, not pinned, younger than the entry (or a comprehension's own) -/
def FpOk (X : Cx) (pins : List (Addr × Obj)) (H : Hp) (b : Addr) : Prop :=
  H b = none ∧ b ≠ X.env.locals ∧ b ∉ X.fs ∧ (b ∈ X.ex ∨ X.s₀.heap.objs.size ≤ b) ∧ (∀ x c, X.env.cells.lookup x = some c → c ≠ b) ∧ ∀ p ∈ X.pn ++ pins, p.1 ≠ b
theorem Inv.fpOk {X : Cx} {pins : List (Addr × Obj)} {σ : St} {H H' : Hp} {s : Shared} {b : Addr} (I : Inv X pins σ H s) (hb : s.heap.objs.size ≤ b) (hn : H' b = none) : FpOk X pins H' b := by
  refine ⟨hn, Nat.ne_of_gt (Nat.lt_of_lt_of_le I.lt hb), I.nofs hb, .inr (Nat.le_trans I.sz hb), fun x c e z => ?_, fun p hp z => ?_⟩
  · obtain ⟨v, q⟩ := I.cell x c e
    exact absurd (Nat.lt_of_lt_of_le q.lt (by rw [z]; exact hb)) (Nat.lt_irrefl _)
  · exact absurd (Nat.lt_of_lt_of_le (Heap.lt_size (I.pin p hp).1) (by rw [z]; exact hb)) (Nat.lt_irrefl _)
structure Turn (P : Program) (w : World) (K : PySem.W.Frag) (tg : Expr) (J : It) (fp : List Addr) (it : Addr) (tn : Nat → Heap → Prop) : Prop where
  mem : it ∈ fp
  obj : ∀ i h, tn i h → ∀ b ∈ fp, ∃ o, h.get? b = some o ∧ ∀ v, o.data ≠ .cell v
  keep : ∀ i h h', tn i h → (∀ b ∈ fp, ∀ o, h.get? b = some o → h'.get? b = some o) → tn i h'
  item : ∀ (X : Cx), X.prog = P → X.w = w → X.K = K → X.calm = true → ∀ (i : Nat) (pins : List (Addr × Obj)) (s : Shared) (σ : St) (H : Hp) (E : Value → Shared → Prop), Inv X pins σ H s → (∀ b ∈ fp, FpOk X pins H b) → tn i s.heap → J.go i H →
    wpAny (model P w) X.A (pyNext (.ref it)) (fun r s1 => ∃ u, r = some u ∧
      wpAny (model P w) X.A (letOwnedTupleGo tg (.ref it) u) (fun _ s2 => ∃ x H', Inv X pins σ H' s2 ∧ RelV x u ∧ J.yld i H x H' ∧ tn (i + 1) s2.heap ∧ ∀ b ∈ fp, H' b = none) E s1) E s
  done : ∀ (X : Cx), X.prog = P → X.w = w → X.K = K → X.calm = true → ∀ (i : Nat) (pins : List (Addr × Obj)) (s : Shared) (σ : St) (H : Hp) (E : Value → Shared → Prop), Inv X pins σ H s → (∀ b ∈ fp, FpOk X pins H b) → tn i s.heap → J.stop i H →
    wpAny (model P w) X.A (pyNext (.ref it)) (fun r s1 => r = none ∧ Inv X pins σ H s1) E s
  self : ∀ (A : Around) (i : Nat) (s : Shared) (Q : Value → Shared → Prop) (E : Value → Shared → Prop), tn i s.heap → Q (.ref it) s → wpAny (model P w) A (pyIter (.ref it)) Q E s
abbrev TI := St → Hp → (It → Hp → Prop) → Prop
/-- an iterator has come -/
def PIE (X : Cx) (pins : List (Addr × Obj)) (σ : St) (tg : Expr) (R : It → Hp → Prop) (itv : Value) (s2 : Shared) : Prop :=
  ∃ (it : Addr) (fp : List Addr) (tn : Nat → Heap → Prop) (J : It) (H' : Hp), itv = .ref it ∧ Inv X pins σ H' s2 ∧ Turn X.prog X.w X.K tg J fp it tn ∧ tn 0 s2.heap ∧ (∀ b ∈ fp, FpOk X pins H' b) ∧ R J H'
def PI (X : Cx) (tg iter : Expr) (wi : TI) : Prop :=
  ∀ (pins : List (Addr × Obj)) (s : Shared) (σ : St) (H : Hp) (R : It → Hp → Prop), Inv X pins σ H s → wi σ H R →
    wpAny (model X.prog X.w) X.A (eval iter X.env) (fun v s1 => wpAny (model X.prog X.w) X.A (pyIter v) (PIE X pins σ tg R) X.xe s1) X.xe s

/-- the step ahead of the store is nothing for an iterator that keeps no tuple -/
theorem go_of {M : Model} {A : Around} {E : Value → Shared → Prop} {s : Shared} {tg : Expr} {it : Addr} {u : Value} {o : Obj} {n : String} {vs : Array Value} {Q : Unit → Shared → Prop} (ho : s.heap.get? it = some o) (hc : o.cls = .type n) (hd : o.data = .fields vs)
    (hn : ["enumerate", "zip", "dict_itemiterator", "dict_reverseitemiterator", "odict_iterator", "itertools.zip_longest", "itertools.pairwise"].contains n = false) (hQ : Q () s) : wpAny M A (letOwnedTupleGo tg (.ref it) u) Q E s := by
  unfold letOwnedTupleGo
  cases tg <;> first
    | exact wpAny_pure hQ
    | (cases u <;> first
        | exact wpAny_pure hQ
        | (refine wpAny_bind (wpAny_load ho ?_)
           rw [hc, hd]
           show wpAny M A (if (["enumerate", "zip", "dict_itemiterator", "dict_reverseitemiterator", "odict_iterator", "itertools.zip_longest", "itertools.pairwise"].contains n && vs[0]? == some (rawInt _)) = true then _ else _) Q E s
           rw [if_neg (by intro h; rw [hn, Bool.false_and] at h; cases h)]
           exact wpAny_pure hQ))

/-- the list at a, as it stands at each turn (a loop may append to it) -/
def Itl (K : PySem.W.Frag) (a : Addr) : It :=
  ⟨fun i H => ∃ xs x, SqL K H a xs ∧ xs[i]? = some x, fun i H x H' => H' = H ∧ ∀ xs, SqL K H a xs → xs[i]? = some x, fun i H => ∃ xs, SqL K H a xs ∧ xs.length ≤ i⟩
def Itt (K : PySem.W.Frag) (a : Addr) : It :=
  ⟨fun i H => ∃ xs x, SqT K H a xs ∧ xs[i]? = some x, fun i H x H' => H' = H ∧ ∀ xs, SqT K H a xs → xs[i]? = some x, fun i H => ∃ xs, SqT K H a xs ∧ xs.length ≤ i⟩
/-- lo, lo + 1, .. (n of them) -/
def Itr (lo : Int) (n : Nat) : It := ⟨fun i _ => i < n, fun i H x H' => H' = H ∧ x = .int (lo + i), fun i _ => n ≤ i⟩
theorem turn_list {P : Program} {w : World} {K : PySem.W.Frag} {tg : Expr} (a it : Addr) : Turn P w K tg (Itl K a) [it] it (fun i h => h.IsListIter it a i) where
  mem := by simp
  obj := fun i h st b hb => by
    have e : b = it := by simpa using hb
    subst e
    obtain ⟨o, e, c, d⟩ := st
    exact ⟨o, e, fun v z => by rw [d] at z; cases z⟩
  keep := fun i h h' st k => st.at fun o e => k it (by simp) o e
  item := by
    intro X hP hw hK hc i pins s σ H E I hf st hg
    subst hP hw hK
    obtain ⟨xs, x, hq, hx⟩ := hg
    obtain ⟨its, rv, p, hz⟩ := I.list hq
    obtain ⟨u, hu, ru⟩ := rv.get hx
    obtain ⟨f0, f1, f2, f3, f4, f5⟩ := hf it (by simp)
    refine wpAny_pyNext_list_item st p.isList (x := u) (by simpa using hu) fun h' st' sb => ?_
    have I1 : Inv X pins σ H { s with heap := h' } := I.turned (t' := s.toks) (fun b o hb e => (sb.2 b hb).trans e) f0 f1 f3 f4 f5
    obtain ⟨o, e, c, d⟩ := id st'
    exact ⟨u, rfl, go_of (s := { s with heap := h' }) e c d (by decide) ⟨x, H, I1, ru, ⟨rfl, fun ys hy => by rw [I.list_inj hy hq]; exact hx⟩, st', fun b hb => (hf b hb).1⟩⟩
  done := by
    intro X hP hw hK hc i pins s σ H E I hf st hg
    subst hP hw hK
    obtain ⟨xs, hq, hx⟩ := hg
    obtain ⟨its, rv, p, hz⟩ := I.list hq
    obtain ⟨f0, f1, f2, f3, f4, f5⟩ := hf it (by simp)
    have hl := rv.length
    exact wpAny_pyNext_list_end (I.ok.hd hc) st p.isList (by simp; omega) fun h' eb => ⟨rfl, I.turned (t' := s.toks) (fun b o hb e => eb b o hb e) f0 f1 f3 f4 f5⟩
  self := fun _ _ _ _ _ st h => wpAny_pyIter_listiter st h
theorem turn_tuple {P : Program} {w : World} {K : PySem.W.Frag} {tg : Expr} (a it : Addr) : Turn P w K tg (Itt K a) [it] it (fun i h => h.IsTupleIter it a i) where
  mem := by simp
  obj := fun i h st b hb => by
    have e : b = it := by simpa using hb
    subst e
    obtain ⟨o, e, c, d⟩ := st
    exact ⟨o, e, fun v z => by rw [d] at z; cases z⟩
  keep := fun i h h' st k => st.at fun o e => k it (by simp) o e
  item := by
    intro X hP hw hK hc i pins s σ H E I hf st hg
    subst hP hw hK
    obtain ⟨xs, x, hq, hx⟩ := hg
    obtain ⟨its, rv, p, hz⟩ := I.tuple hq
    obtain ⟨u, hu, ru⟩ := rv.get hx
    obtain ⟨f0, f1, f2, f3, f4, f5⟩ := hf it (by simp)
    refine wpAny_pyNext_tuple_item st (show s.heap.IsTuple a its.toArray from p) (x := u) (by simpa using hu) fun h' st' sb => ?_
    have I1 : Inv X pins σ H { s with heap := h' } := I.turned (t' := s.toks) (fun b o hb e => (sb.2 b hb).trans e) f0 f1 f3 f4 f5
    obtain ⟨o, e, c, d⟩ := id st'
    exact ⟨u, rfl, go_of (s := { s with heap := h' }) e c d (by decide) ⟨x, H, I1, ru, ⟨rfl, fun ys hy => by rw [I.tuple_inj hy hq]; exact hx⟩, st', fun b hb => (hf b hb).1⟩⟩
  done := by
    intro X hP hw hK hc i pins s σ H E I hf st hg
    subst hP hw hK
    obtain ⟨xs, hq, hx⟩ := hg
    obtain ⟨its, rv, p, hz⟩ := I.tuple hq
    obtain ⟨f0, f1, f2, f3, f4, f5⟩ := hf it (by simp)
    have hl := rv.length
    exact wpAny_pyNext_tuple_end (I.ok.hd hc) st (show s.heap.IsTuple a its.toArray from p) (by simp; omega) fun h' eb => ⟨rfl, I.turned (t' := s.toks) (fun b o hb e => eb b o hb e) f0 f1 f3 f4 f5⟩
  self := fun _ _ _ _ _ st h => wpAny_pyIter_tupleiter st h
theorem turn_range {P : Program} {w : World} {K : PySem.W.Frag} {tg : Expr} (it : Addr) (lo : Int) (n : Nat) : Turn P w K tg (Itr lo n) [it] it (fun i h => IsRangeIter h it (lo + (i : Nat) * 1) ((n : Int) - (i : Nat)) 1) where
  mem := by simp
  obj := fun i h st b hb => by
    have e : b = it := by simpa using hb
    subst e
    exact ⟨_, st, fun v z => by
      have z' : Data.fields _ = Data.cell v := z
      cases z'⟩
  keep := fun i h h' st k => k it (by simp) _ st
  item := by
    intro X hP hw hK hc i pins s σ H E I hf st hg
    subst hP hw hK
    obtain ⟨f0, f1, f2, f3, f4, f5⟩ := hf it (by simp)
    have W := Walks.range (prog := X.prog) (w := X.w) (I.ok.hd hc) it lo 1 n
    refine W.item i s _ _ hg st fun v h' tk hv st' kk => ?_
    obtain ⟨t, rfl⟩ := hv
    have I1 : Inv X pins σ H { s with heap := h', toks := tk } := I.turned (fun b o hb e => kk b o (by simpa using hb) e) f0 f1 f3 f4 f5
    refine ⟨_, rfl, go_of (s := { s with heap := h', toks := tk }) (n := "range_iterator") st' rfl rfl (by decide) ⟨.int (lo + i), H, I1, ⟨t, ?_⟩, ⟨rfl, rfl⟩, st', fun b hb => (hf b hb).1⟩⟩
    rw [Int.mul_one]
  done := by
    intro X hP hw hK hc i pins s σ H E I hf st hg
    subst hP hw hK
    obtain ⟨f0, f1, f2, f3, f4, f5⟩ := hf it (by simp)
    exact wpAny_pyNext_range_end (I.ok.hd hc) st (by have : n ≤ i := hg; omega) fun h' eb => ⟨rfl, I.turned (t' := s.toks) (fun b o hb e => eb b o hb e) f0 f1 f3 f4 f5⟩
  self := fun _ _ _ _ _ st h => wpAny_pyIter_rangeiter st h
end L2

namespace L2
open PySem PySem.Spec PyProof.Rows
section
variable {X : Cx} {tg : Expr}
def iList (K : PySem.W.Frag) (tl : TE) : TI := fun σ H R => tl σ H fun x H1 => ∃ a, x = .ref a ∧ (∃ xs, SqL K H1 a xs) ∧ R (Itl K a) H1
def iTup (K : PySem.W.Frag) (tl : TE) : TI := fun σ H R => tl σ H fun x H1 => ∃ a, x = .ref a ∧ (∃ xs, SqT K H1 a xs) ∧ R (Itt K a) H1
theorem pi_list {l : Expr} {tl : TE} (hl : PE X l tl) : PI X tg l (iList X.K tl) := by
  intro pins s σ H R I h
  refine thn (hl pins s σ H _ I h) fun v s1 ⟨x, H1, I1, r1, q1⟩ => ?_
  obtain ⟨a, e, ⟨xs, hq⟩, q⟩ := q1
  subst e
  cases r1
  obtain ⟨its, rv, p, hz⟩ := I1.list hq
  refine wpAny_pyIter_list p.isList ?_
  refine ⟨s1.heap.objs.size, [s1.heap.objs.size], _, _, H1, rfl, I1.kept (t' := s1.toks) fun b o e => Heap.get?_push_of_some _ e, turn_list a _, ⟨_, Heap.get?_push_size _ rfl, rfl, rfl⟩, fun b hb => ?_, q⟩
  have e : b = s1.heap.objs.size := by simpa using hb
  subst e
  exact I1.fpOk (Nat.le_refl _) (I1.hok.fresh (Nat.le_refl _))
theorem pi_tup {l : Expr} {tl : TE} (hl : PE X l tl) : PI X tg l (iTup X.K tl) := by
  intro pins s σ H R I h
  refine thn (hl pins s σ H _ I h) fun v s1 ⟨x, H1, I1, r1, q1⟩ => ?_
  obtain ⟨a, e, ⟨xs, hq⟩, q⟩ := q1
  subst e
  cases r1
  obtain ⟨its, rv, p, hz⟩ := I1.tuple hq
  refine wpAny_pyIter_tuple (show s1.heap.IsTuple a its.toArray from p) ?_
  refine ⟨s1.heap.objs.size, [s1.heap.objs.size], _, _, H1, rfl, I1.kept (t' := s1.toks) fun b o e => Heap.get?_push_of_some _ e, turn_tuple a _, ⟨_, Heap.get?_push_size _ rfl, rfl, rfl⟩, fun b hb => ?_, q⟩
  have e : b = s1.heap.objs.size := by simpa using hb
  subst e
  exact I1.fpOk (Nat.le_refl _) (I1.hok.fresh (Nat.le_refl _))
/-- a range object just made, walked -/
theorem range_it {pins : List (Addr × Obj)} {σ : St} {H : Hp} {s : Shared} {R : It → Hp → Prop} {E : Value → Shared → Prop} {lo hi : Int} {t u v : Tok} {tk : Nat} (I : Inv X pins σ H s) (h1 : -(2 ^ 62) ≤ lo) (h2 : lo < 2 ^ 62) (h3 : -(2 ^ 62) ≤ hi) (h4 : hi < 2 ^ 62)
    (q : R (Itr lo (hi - lo).toNat) H) : wpAny (model X.prog X.w) X.A (pyIter (.ref s.heap.objs.size)) (PIE X pins σ tg R) E { s with heap := s.heap.push { cls := .type "range", data := .fields #[.int lo t, .int hi u, .int 1 v] }, toks := tk } := by
  refine wpAny_pyIter_range (IsRange.new ..) (small_one h1 h2 h3 h4) ?_
  have I1 : Inv X pins σ H { s with heap := s.heap.push { cls := .type "range", data := .fields #[.int lo t, .int hi u, .int 1 v] }, toks := tk } := I.kept fun b o e => Heap.get?_push_of_some _ e
  refine ⟨(s.heap.push { cls := .type "range", data := .fields #[.int lo t, .int hi u, .int 1 v] }).objs.size, [(s.heap.push { cls := .type "range", data := .fields #[.int lo t, .int hi u, .int 1 v] }).objs.size], _, _, H, rfl,
    I1.kept (t' := tk) fun b o e => Heap.get?_push_of_some _ e, turn_range _ lo (hi - lo).toNat, ?_, fun b hb => ?_, q⟩
  · have e1 : lo + ((0 : Nat) : Int) * 1 = lo := by simp
    have e2 : (((hi - lo).toNat : Nat) : Int) - ((0 : Nat) : Int) = Builtin.Range.rangeSize lo hi 1 := by rw [rangeSize_one]; split <;> omega
    show IsRangeIter _ _ (lo + ((0 : Nat) : Int) * 1) ((((hi - lo).toNat : Nat) : Int) - ((0 : Nat) : Int)) 1
    rw [e1, e2]
    exact Heap.get?_push_size _ rfl
  · have e : b = (s.heap.push { cls := .type "range", data := .fields #[.int lo t, .int hi u, .int 1 v] }).objs.size := by simpa using hb
    subst e
    exact I1.fpOk (Nat.le_refl _) (I1.hok.fresh (Nat.le_refl _))
def iRng1 (ta : TA) : TI := fun σ H R => ta σ H fun vs H1 => ∃ j : Int, vs = [.int j] ∧ -(2 ^ 62) ≤ j ∧ j < 2 ^ 62 ∧ R (Itr 0 j.toNat) H1
theorem pi_range1 {a : Expr} {ta : TA} {p pos : Pos} (hg : Gl X "range") (hm : X.mg "range" = none) (ha : PA X [a] ta) (hs : starEach [a] X.env = [(false, eval a X.env)] := by rfl) : PI X tg (.Call (.Name "range" p) [a] [] pos) (iRng1 ta) := by
  intro pins s σ H R I h
  refine Call_ (ld_blt I hg hm boot_range (PyProof.Rows.callWith_type1 (thn (ha pos pins s σ H _ I h) fun us s1 ⟨vs, H1, I1, r1, q1⟩ => ?_) hs rfl))
  obtain ⟨j, e, q1, q2, q⟩ := q1
  subst e
  cases r1 with
  | cons r rr =>
    cases rr
    obtain ⟨t, rfl⟩ := r
    exact call_range_1 (range_it I1 (by omega) (by omega) q1 q2 (by simpa using q))
/-! ### for -/
/-- W: the invariant by the turn and a measure; N: what the body is to reach -/
def tFor (wi : TI) (g : TG) (tb : TS) : TS := fun D σ H => wi σ H fun J H1 => ∃ W : Nat → Nat → St → Hp → Prop, (∃ m, W 0 m σ H1) ∧ ∀ i m σ H, W i m σ H →
  (J.stop i H ∧ D.nx σ H) ∨ (J.go i H ∧ ∃ N : St → Hp → Prop, (∀ σ' H', N σ' H' → ∃ m', m' < m ∧ W (i + 1) m' σ' H') ∧ ∀ x H', J.yld i H x H' → g x σ H' fun σ2 H2 => tb { D with nx := N, ct := N, bk := D.nx } σ2 H2)
/-- the records at fp as they stand -/
def pinsAt (fp : List Addr) (h : Heap) : List (Addr × Obj) := fp.filterMap fun b => (h.get? b).map fun o => (b, o)
theorem mem_pinsAt {fp : List Addr} {h : Heap} {b : Addr} {o : Obj} (hb : b ∈ fp) (e : h.get? b = some o) : (b, o) ∈ pinsAt fp h := List.mem_filterMap.mpr ⟨b, hb, by rw [e]; rfl⟩
theorem of_pinsAt {fp : List Addr} {h : Heap} {p : Addr × Obj} (hp : p ∈ pinsAt fp h) : p.1 ∈ fp ∧ h.get? p.1 = some p.2 := by
  obtain ⟨b, hb, e⟩ := List.mem_filterMap.mp hp
  cases q : h.get? b with
  | none => rw [q] at e; cases e
  | some o =>
    rw [q] at e
    have e' : (b, o) = p := Option.some.inj e
    subst e'
    exact ⟨hb, q⟩
theorem Inv.pinned {pins : List (Addr × Obj)} {σ : St} {H : Hp} {s : Shared} {fp : List Addr} (I : Inv X pins σ H s) (hf : ∀ b ∈ fp, FpOk X pins H b) (ho : ∀ b ∈ fp, ∃ o, s.heap.get? b = some o ∧ ∀ v, o.data ≠ .cell v) : Inv X (pins ++ pinsAt fp s.heap) σ H s :=
  I.pins_of fun p hp => (List.mem_append.mp hp).elim (fun z => I.pin p (List.mem_append_right _ z)) fun z => by
    obtain ⟨hb, e⟩ := of_pinsAt z
    obtain ⟨f0, f1, f2, _⟩ := hf p.1 hb
    obtain ⟨o, e', d⟩ := ho p.1 hb
    rw [e] at e'; cases e'
    exact ⟨e, f0, f1, f2, d⟩
theorem Inv.unpinned {pins pl : List (Addr × Obj)} {σ : St} {H : Hp} {s : Shared} (I : Inv X (pins ++ pl) σ H s) : Inv X pins σ H s := I.pins_of fun p hp => I.pin p (List.mem_append_right _ (List.mem_append_left _ hp))
theorem ps_for {iter : Expr} {body : List Stmt} {wi : TI} {g : TG} {tb : TS} {pos : Pos} (hp : PassesOwn (model X.prog X.w) X.A X.env X.xe) (hc : X.calm = true) (hi : PI X tg iter wi) (hg : PG X tg g) (hb : PSs X body tb)
    (hs : ∀ x, foldedSetIterable iter X.env x = pure x := by intro _; rfl) : PS X (.For tg iter body [] pos) (tFor wi g tb) := by
  intro pins s σ H D I h
  refine wpAny_For (thn (hi pins s σ H _ I h) fun v s1 h1 => thn h1 fun itv s2 h2 => ?_) hs
  obtain ⟨it, fp, tn, J, H2, e, I2, T, st2, f2, W, ⟨m0, w0⟩, turn⟩ := h2
  subst e
  -- what stays true of the iterator's objects through the loop
  have stat : ∀ {H' : Hp}, (∀ b ∈ fp, H' b = none) → ∀ b ∈ fp, FpOk X pins H' b := fun hn b hb => ⟨hn b hb, (f2 b hb).2⟩
  refine codeAny_forLoop_any (fun n s' => ∃ i σ' H', Inv X pins σ' H' s' ∧ tn i s'.heap ∧ (∀ b ∈ fp, H' b = none) ∧ W i n σ' H') ?_ m0 ⟨0, σ, H2, I2, st2, fun b hb => (f2 b hb).1, w0⟩
  rintro n s3 ⟨i, σ3, H3, I3, st3, fr3, w3⟩
  rcases turn i n σ3 H3 w3 with ⟨stop, qn⟩ | ⟨go, N, hN, step⟩
  · refine wpAny_passesOwn hp (thn (T.done X rfl rfl rfl hc i pins s3 σ3 H3 X.xe I3 (stat fr3) st3 stop) fun r s4 ⟨hr, I4⟩ => ?_)
    subst hr
    exact wpAny_execs_nil ⟨σ3, H3, I4, qn⟩
  · refine wpAny_passesOwn hp (thn (T.item X rfl rfl rfl hc i pins s3 σ3 H3 X.xe I3 (stat fr3) st3 go) fun r s4 ⟨u, hr, h4⟩ => ?_)
    subst hr
    refine wpAny_passesOwn hp (thn h4 fun _ s5 ⟨x, H5, I5, r5, y5, st5, fr5⟩ => ?_)
    have I5' := I5.pinned (stat fr5) (T.obj _ _ st5)
    refine wpAny_passesOwn hp (thn (hg _ s5 σ3 H5 x u _ I5' r5 (step x H5 y5)) fun _ s6 ⟨σ6, H6, I6, q6⟩ => ?_)
    refine wpAny_passesOwn hp (thn (hb _ s6 σ6 H6 _ I6 q6) fun f s7 q7 => ?_)
    have again : ∀ {σ7 : St} {H7 : Hp}, Inv X (pins ++ pinsAt fp s5.heap) σ7 H7 s7 → N σ7 H7 → ∃ m, m < n ∧ ∃ i σ' H', Inv X pins σ' H' s7 ∧ tn i s7.heap ∧ (∀ b ∈ fp, H' b = none) ∧ W i m σ' H' := fun {σ7 H7} I7 n7 => by
      obtain ⟨m', hm, w7⟩ := hN σ7 H7 n7
      refine ⟨m', hm, i + 1, σ7, H7, I7.unpinned, T.keep _ _ _ st5 fun b hb o e => (I7.pin (b, o) (List.mem_append_right _ (List.mem_append_right _ (mem_pinsAt hb e)))).1, fun b hb => ?_, w7⟩
      obtain ⟨o, e, d⟩ := T.obj _ _ st5 b hb
      exact (I7.pin (b, o) (List.mem_append_right _ (List.mem_append_right _ (mem_pinsAt hb e)))).2.1
    cases f with
    | next => obtain ⟨σ7, H7, I7, n7⟩ := q7; exact again I7 n7
    | cont => obtain ⟨σ7, H7, I7, n7⟩ := q7; exact again I7 n7
    | brk => obtain ⟨σ7, H7, I7, q7⟩ := q7; exact ⟨σ7, H7, I7.unpinned, q7⟩
    | ret v => obtain ⟨x7, σ7, H7, I7, r7, q7⟩ := q7; exact ⟨x7, σ7, H7, I7.unpinned, r7, q7⟩
end

/-! ### the forms one uses -/
/-- over a list that the body leaves as it is -/
theorem for_list {K : PySem.W.Frag} {a : Addr} {xs : List V} {g : TG} {tb : TS} {D : Ends} {σ : St} {H : Hp} (Pv : Nat → St → Hp → Prop) (h0 : Pv 0 σ H) (hl : ∀ i σ H, i ≤ xs.length → Pv i σ H → SqL K H a xs)
    (hs : ∀ i x σ H, xs[i]? = some x → Pv i σ H → g x σ H fun σ2 H2 => tb { D with nx := Pv (i + 1), ct := Pv (i + 1), bk := D.nx } σ2 H2) (hd : ∀ σ H, Pv xs.length σ H → D.nx σ H) :
    ∃ W : Nat → Nat → St → Hp → Prop, (∃ m, W 0 m σ H) ∧ ∀ i m σ H, W i m σ H →
      ((Itl K a).stop i H ∧ D.nx σ H) ∨ ((Itl K a).go i H ∧ ∃ N : St → Hp → Prop, (∀ σ' H', N σ' H' → ∃ m', m' < m ∧ W (i + 1) m' σ' H') ∧ ∀ x H', (Itl K a).yld i H x H' → g x σ H' fun σ2 H2 => tb { D with nx := N, ct := N, bk := D.nx } σ2 H2) := by
  refine ⟨fun i m σ H => m = xs.length - i ∧ i ≤ xs.length ∧ Pv i σ H, ⟨xs.length, by simp, Nat.zero_le _, h0⟩, ?_⟩
  rintro i m σ H ⟨rfl, hi, p⟩
  have q := hl i σ H hi p
  by_cases hlt : i < xs.length
  · refine .inr ⟨⟨xs, xs[i], q, by simp [hlt]⟩, Pv (i + 1), fun σ' H' p' => ⟨xs.length - (i + 1), by omega, rfl, hlt, p'⟩, fun x H' y => ?_⟩
    obtain ⟨e, y⟩ := y
    subst e
    exact hs i x σ _ (y xs q) p
  · have e : i = xs.length := by omega
    subst e
    exact .inl ⟨⟨xs, q, Nat.le_refl _⟩, hd σ H p⟩
theorem for_range {lo : Int} {n : Nat} {g : TG} {tb : TS} {D : Ends} {σ : St} {H : Hp} (Pv : Nat → St → Hp → Prop) (h0 : Pv 0 σ H)
    (hs : ∀ i σ H, i < n → Pv i σ H → g (.int (lo + i)) σ H fun σ2 H2 => tb { D with nx := Pv (i + 1), ct := Pv (i + 1), bk := D.nx } σ2 H2) (hd : ∀ σ H, Pv n σ H → D.nx σ H) :
    ∃ W : Nat → Nat → St → Hp → Prop, (∃ m, W 0 m σ H) ∧ ∀ i m σ H, W i m σ H →
      ((Itr lo n).stop i H ∧ D.nx σ H) ∨ ((Itr lo n).go i H ∧ ∃ N : St → Hp → Prop, (∀ σ' H', N σ' H' → ∃ m', m' < m ∧ W (i + 1) m' σ' H') ∧ ∀ x H', (Itr lo n).yld i H x H' → g x σ H' fun σ2 H2 => tb { D with nx := N, ct := N, bk := D.nx } σ2 H2) := by
  refine ⟨fun i m σ H => m = n - i ∧ i ≤ n ∧ Pv i σ H, ⟨n, by simp, Nat.zero_le _, h0⟩, ?_⟩
  rintro i m σ H ⟨rfl, hi, p⟩
  by_cases hlt : i < n
  · refine .inr ⟨hlt, Pv (i + 1), fun σ' H' p' => ⟨n - (i + 1), by omega, rfl, hlt, p'⟩, fun x H' y => ?_⟩
    obtain ⟨e, y⟩ := y
    subst e y
    exact hs i σ _ hlt p
  · have e : i = n := by omega
    subst e
    exact .inl ⟨Nat.le_refl _, hd σ H p⟩
end L2

namespace L2
open PySem PySem.Spec PyProof.Rows

abbrev R2 := V → V → Hp → VK → Prop
/-- a two-place operation on values: f is binaryOp op, inplaceOp op or compareOp op -/
def OpR (X : Cx) (f : Value → Value → Sem Value) (r : R2) : Prop :=
  ∀ (pins : List (Addr × Obj)) (s : Shared) (σ : St) (H : Hp) (x y : V) (v u : Value) (Q : VK), Inv X pins σ H s → RelV x v → RelV y u → r x y H Q →
    wpAny (model X.prog X.w) X.A (f v u) (EP X pins σ Q) X.xe s
/-- a one-place operation -/
def UnR (X : Cx) (f : Value → Sem Value) (r : V → Hp → VK → Prop) : Prop :=
  ∀ (pins : List (Addr × Obj)) (s : Shared) (σ : St) (H : Hp) (x : V) (v : Value) (Q : VK), Inv X pins σ H s → RelV x v → r x H Q →
    wpAny (model X.prog X.w) X.A (f v) (EP X pins σ Q) X.xe s
/-- a call of a value that is known (a builtin, a type) with values -/
def CallR (X : Cx) (f : Value) (r : List V → Hp → VK → Prop) : Prop :=
  ∀ (pins : List (Addr × Obj)) (s : Shared) (σ : St) (H : Hp) (xs : List V) (us : List Value) (Q : VK), Inv X pins σ H s → Vals xs us → r xs H Q →
    wpAny (model X.prog X.w) X.A (call f us) (EP X pins σ Q) X.xe s
def tOp (r : R2) (ta tb : TE) : TE := fun σ H Q => ta σ H fun x H1 => tb σ H1 fun y H2 => r x y H2 Q
def tUn (r : V → Hp → VK → Prop) (ta : TE) : TE := fun σ H Q => ta σ H fun x H1 => r x H1 Q
/-- ints in, under C, and a value out -/
def rI (C : Int → Int → Prop) (g : Int → Int → V) : R2 := fun x y H Q => ∃ i j, x = .int i ∧ y = .int j ∧ C i j ∧ Q (g i j) H
def rI0 (g : Int → Int → V) : R2 := fun x y H Q => ∃ i j, x = .int i ∧ y = .int j ∧ Q (g i j) H
def rU (g : Int → V) : V → Hp → VK → Prop := fun x H Q => ∃ i, x = .int i ∧ Q (g i) H

section
variable {X : Cx} {a b c : Expr} {ta tb tc : TE} {pos : Pos}

theorem binT (ha : PE X a ta) (hb : PE X b tb) {pins : List (Addr × Obj)} {s : Shared} {σ : St} {H : Hp} {R : V → V → Hp → Prop} (I : Inv X pins σ H s)
    (h : ta σ H fun x H1 => tb σ H1 fun y H2 => R x y H2) {Q : Value → Shared → Prop} {f : Value → Value → Sem Value}
    (hf : ∀ v u s2 x y H2, Inv X pins σ H2 s2 → RelV x v → RelV y u → R x y H2 → wpAny (model X.prog X.w) X.A (f v u) Q X.xe s2) :
    wpAny (model X.prog X.w) X.A (eval a X.env) (fun v s₁ => wpAny (model X.prog X.w) X.A (eval b X.env) (fun u s₂ => wpAny (model X.prog X.w) X.A (f v u) Q X.xe s₂) X.xe s₁) X.xe s := by
  refine thn (ha pins s σ H _ I h) fun v s1 ⟨x, H1, I1, r1, q1⟩ => ?_
  refine thn (hb pins s1 σ H1 _ I1 q1) fun u s2 ⟨y, H2, I2, r2, q2⟩ => ?_
  exact hf v u s2 x y H2 I2 r1 r2 q2

theorem pe_op {op : Operator} {r : R2} (ho : OpR X (binaryOp op) r) (ha : PE X a ta) (hb : PE X b tb) : PE X (.BinOp a op b pos) (tOp r ta tb) := by
  intro pins s σ H Q I h
  exact wpAny_BinOp (binT ha hb I h fun v u s2 x y H2 I2 rx ry q => ho pins s2 σ H2 x y v u Q I2 rx ry q)
theorem pe_un {op : UnaryOp} {r : V → Hp → VK → Prop} (ho : UnR X (unaryOp op) r) (ha : PE X a ta) : PE X (.UnaryOp op a pos) (tUn r ta) := by
  intro pins s σ H Q I h
  exact UnaryOp_ (thn (ha pins s σ H _ I h) fun v s1 ⟨x, H1, I1, r1, q1⟩ => ho pins s1 σ H1 x v Q I1 r1 q1)
/-! ### ints -/
theorem opI {f : Value → Value → Sem Value} {C : Int → Int → Prop} {g : Int → Int → Int}
    (rule : ∀ (i j : Int) (t u : Tok) (s : Shared) (Q : Value → Shared → Prop) (E : Value → Shared → Prop), C i j → Q (.int (g i j) s.toks) { s with toks := s.toks + 1 } → wpAny (model X.prog X.w) X.A (f (.int i t) (.int j u)) Q E s) :
    OpR X f (rI C fun i j => .int (g i j)) := by
  intro pins s σ H x y v u Q I rx ry h
  obtain ⟨i, j, rfl, rfl, hc, q⟩ := h
  obtain ⟨t, rfl⟩ := rx
  obtain ⟨t', rfl⟩ := ry
  exact rule i j t t' s _ _ hc ⟨.int (g i j), H, I.tok _, ⟨_, rfl⟩, q⟩
theorem opI0 {f : Value → Value → Sem Value} {g : Int → Int → Int}
    (rule : ∀ (i j : Int) (t u : Tok) (s : Shared) (Q : Value → Shared → Prop) (E : Value → Shared → Prop), Q (.int (g i j) s.toks) { s with toks := s.toks + 1 } → wpAny (model X.prog X.w) X.A (f (.int i t) (.int j u)) Q E s) :
    OpR X f (rI0 fun i j => .int (g i j)) := by
  intro pins s σ H x y v u Q I rx ry h
  obtain ⟨i, j, rfl, rfl, q⟩ := h
  obtain ⟨t, rfl⟩ := rx
  obtain ⟨t', rfl⟩ := ry
  exact rule i j t t' s _ _ ⟨.int (g i j), H, I.tok _, ⟨_, rfl⟩, q⟩
theorem opB0 {f : Value → Value → Sem Value} {g : Int → Int → Bool}
    (rule : ∀ (i j : Int) (t u : Tok) (s : Shared) (Q : Value → Shared → Prop) (E : Value → Shared → Prop), Q (.bool (g i j)) s → wpAny (model X.prog X.w) X.A (f (.int i t) (.int j u)) Q E s) :
    OpR X f (rI0 fun i j => .bl (g i j)) := by
  intro pins s σ H x y v u Q I rx ry h
  obtain ⟨i, j, rfl, rfl, q⟩ := h
  obtain ⟨t, rfl⟩ := rx
  obtain ⟨t', rfl⟩ := ry
  exact rule i j t t' s _ _ ⟨.bl (g i j), H, I, rfl, q⟩

def CDiv (i j : Int) : Prop := 0 < j ∧ j < 1073741824
def CPow (i j : Int) : Prop := 0 ≤ j ∧ j ≤ 1000000 ∧ i.natAbs < 2 ^ 64
def CMul (i j : Int) : Prop := (-(2 ^ 64) < i ∧ i < 2 ^ 64) ∨ (-(2 ^ 64) < j ∧ j < 2 ^ 64)
theorem CMul.ok {i j : Int} (h : CMul i j) : IntMulOk i j := by
  rcases h with ⟨h1, h2⟩ | ⟨h1, h2⟩
  · exact .of_left (intBits_le_64 h1 h2)
  · exact .of_right (intBits_le_64 h1 h2)
theorem op_add : OpR X (binaryOp .Add) (rI0 fun i j => .int (i + j)) := opI0 fun _ _ _ _ _ _ _ q => add_int q
theorem op_sub : OpR X (binaryOp .Sub) (rI0 fun i j => .int (i - j)) := opI0 fun _ _ _ _ _ _ _ q => sub_int q
theorem op_mul : OpR X (binaryOp .Mult) (rI CMul fun i j => .int (i * j)) := opI fun _ _ _ _ _ _ _ hc q => mul_int q hc.ok
/-- // by a positive divisor -/
theorem op_fdiv : OpR X (binaryOp .FloorDiv) (rI CDiv fun i j => .int (i / j)) := opI fun i j _ _ _ _ _ hc q => by
  have h1 : (0 : Int) < j := hc.1
  have h2 : j < 1073741824 := hc.2
  exact floordiv_int (by omega) (by rw [Int.fdiv_eq_ediv_of_nonneg i (by omega)]; exact q) (.inl (PyProof.noPylong_small (by omega)))
/-- % by a positive divisor of any size -/
theorem op_mod : OpR X (binaryOp .Mod) (rI (fun _ j => 0 < j) fun i j => .int (i % j)) := opI fun i j _ _ _ _ _ hc q => by
  have h1 : (0 : Int) < j := hc
  exact mod_int' (by omega) (by rw [Int.fmod_eq_emod_of_nonneg i (by omega)]; exact q)
theorem op_pow : OpR X (binaryOp .Pow) (rI CPow fun i j => .int (i ^ j.toNat)) := opI fun _ _ _ _ _ _ _ hc q => pow_int_small hc.1 hc.2.1 hc.2.2 q
theorem unI {f : Value → Sem Value} {g : Int → Int}
    (rule : ∀ (i : Int) (t : Tok) (s : Shared) (Q : Value → Shared → Prop) (E : Value → Shared → Prop), Q (.int (g i) s.toks) { s with toks := s.toks + 1 } → wpAny (model X.prog X.w) X.A (f (.int i t)) Q E s) :
    UnR X f (rU fun i => .int (g i)) := by
  intro pins s σ H x v Q I rx h
  obtain ⟨i, rfl, q⟩ := h
  obtain ⟨t, rfl⟩ := rx
  exact rule i t s _ _ ⟨.int (g i), H, I.tok _, ⟨_, rfl⟩, q⟩
theorem un_neg : UnR X (unaryOp .USub) (rU fun i => .int (-i)) := unI fun _ _ _ _ _ q => neg_int q
/-! ### bools among ints: n += (a < b) -/
end

/-! ### comparisons -/
/-- the scalars that == tells apart as data does -/
def scal : V → V → Bool
  | .non, .non => true | .non, .int _ => true | .int _, .non => true | .non, .bl _ => true | .bl _, .non => true | .non, .str _ => true | .str _, .non => true
  | .int _, .int _ => true | .bl _, .bl _ => true | .str _, .str _ => true | .byt _, .byt _ => true
  | .int _, .str _ => true | .str _, .int _ => true | .bl _, .str _ => true | .str _, .bl _ => true
  | _, _ => false
def rEq : R2 := fun x y H Q => scal x y = true ∧ Q (.bl (decide (x = y))) H
def rNe : R2 := fun x y H Q => scal x y = true ∧ Q (.bl (!decide (x = y))) H

theorem dec_int {i j : Int} : decide (V.int i = V.int j) = (i == j) := by
  rw [Bool.eq_iff_iff]
  simp
theorem dec_bl {i j : Bool} : decide (V.bl i = V.bl j) = (i == j) := by
  rw [Bool.eq_iff_iff]
  simp
theorem dec_str {i j : Str} : decide (V.str i = V.str j) = (i == j) := by
  rw [Bool.eq_iff_iff]
  simp
theorem dec_byt {i j : Array UInt8} : decide (V.byt i = V.byt j) = (i.toList == j.toList) := by
  rw [Bool.eq_iff_iff]
  cases i
  cases j
  simp

section
variable {X : Cx} {a b c : Expr} {ta tb tc : TE} {pos : Pos}
theorem fin_bl {pins : List (Addr × Obj)} {σ : St} {H : Hp} {s : Shared} {Q : VK} {k k' : Bool} (I : Inv X pins σ H s) (q : Q (.bl k) H) (e : k = k') : EP X pins σ Q (.bool k') s := by
  subst e
  exact ⟨.bl k, H, I, rfl, q⟩
theorem op_eq : OpR X (compareOp .Eq) rEq := by
  intro pins s σ H x y v u Q I rx ry h
  obtain ⟨hs, q⟩ := h
  cases x with
  | non =>
    cases rx
    cases y with
    | non => cases ry; exact PySem.EqNone.eq_none_none (fin_bl I q (by simp))
    | bl j => cases ry; exact PySem.EqNone.eq_none_bool (fin_bl I q (by simp))
    | int j => obtain ⟨t', rfl⟩ := ry; exact PySem.EqNone.eq_none_int (fin_bl I q (by simp))
    | str j => obtain ⟨t', rfl⟩ := ry; exact PySem.EqNone.eq_none_str (fin_bl I q (by simp))
    | _ => exact absurd (show false = true from hs) Bool.false_ne_true
  | bl i =>
    cases rx
    cases y with
    | non => cases ry; exact PySem.EqNone.eq_bool_none (fin_bl I q (by simp))
    | bl j => cases ry; exact eq_bool (fin_bl I q dec_bl)
    | str j => obtain ⟨t', rfl⟩ := ry; exact PySem.EqMixed.eq_bool_str (fin_bl I q (by simp))
    | _ => exact absurd (show false = true from hs) Bool.false_ne_true
  | int i =>
    obtain ⟨t, rfl⟩ := rx
    cases y with
    | non => cases ry; exact PySem.EqNone.eq_int_none (fin_bl I q (by simp))
    | int j => obtain ⟨t', rfl⟩ := ry; exact eq_int (fin_bl I q dec_int)
    | str j => obtain ⟨t', rfl⟩ := ry; exact PySem.EqMixed.eq_int_str (fin_bl I q (by simp))
    | _ => exact absurd (show false = true from hs) Bool.false_ne_true
  | str i =>
    obtain ⟨t, rfl⟩ := rx
    cases y with
    | non => cases ry; exact PySem.EqNone.eq_str_none (fin_bl I q (by simp))
    | bl j => cases ry; exact PySem.EqMixed.eq_str_bool (fin_bl I q (by simp))
    | int j => obtain ⟨t', rfl⟩ := ry; exact PySem.EqMixed.eq_str_int (fin_bl I q (by simp))
    | str j => obtain ⟨t', rfl⟩ := ry; exact eq_str (fin_bl I q dec_str)
    | _ => exact absurd (show false = true from hs) Bool.false_ne_true
  | byt i =>
    obtain ⟨t, rfl⟩ := rx
    cases y with
    | byt j => obtain ⟨t', rfl⟩ := ry; exact PySem.W.eq_bytes (fin_bl I q dec_byt)
    | _ => exact absurd (show false = true from hs) Bool.false_ne_true
  | _ => cases y <;> exact absurd (show false = true from hs) Bool.false_ne_true
theorem op_ne : OpR X (compareOp .NotEq) rNe := by
  intro pins s σ H x y v u Q I rx ry h
  obtain ⟨hs, q⟩ := h
  cases x with
  | non =>
    cases rx
    cases y with
    | non => cases ry; exact PySem.EqNone.ne_none_none (fin_bl I q (by simp))
    | bl j => cases ry; exact PySem.EqNone.ne_none_bool (fin_bl I q (by simp))
    | int j => obtain ⟨t', rfl⟩ := ry; exact PySem.EqNone.ne_none_int (fin_bl I q (by simp))
    | str j => obtain ⟨t', rfl⟩ := ry; exact PySem.EqNone.ne_none_str (fin_bl I q (by simp))
    | _ => exact absurd (show false = true from hs) Bool.false_ne_true
  | bl i =>
    cases rx
    cases y with
    | non => cases ry; exact PySem.EqNone.ne_bool_none (fin_bl I q (by simp))
    | bl j => cases ry; exact ne_bool (fin_bl I q (congrArg not dec_bl))
    | str j => obtain ⟨t', rfl⟩ := ry; exact PySem.EqMixed.ne_bool_str (fin_bl I q (by simp))
    | _ => exact absurd (show false = true from hs) Bool.false_ne_true
  | int i =>
    obtain ⟨t, rfl⟩ := rx
    cases y with
    | non => cases ry; exact PySem.EqNone.ne_int_none (fin_bl I q (by simp))
    | int j => obtain ⟨t', rfl⟩ := ry; exact ne_int (fin_bl I q (congrArg not dec_int))
    | str j => obtain ⟨t', rfl⟩ := ry; exact PySem.EqMixed.ne_int_str (fin_bl I q (by simp))
    | _ => exact absurd (show false = true from hs) Bool.false_ne_true
  | str i =>
    obtain ⟨t, rfl⟩ := rx
    cases y with
    | non => cases ry; exact PySem.EqNone.ne_str_none (fin_bl I q (by simp))
    | bl j => cases ry; exact PySem.EqMixed.ne_str_bool (fin_bl I q (by simp))
    | int j => obtain ⟨t', rfl⟩ := ry; exact PySem.EqMixed.ne_str_int (fin_bl I q (by simp))
    | str j => obtain ⟨t', rfl⟩ := ry; exact ne_str (fin_bl I q (congrArg not dec_str))
    | _ => exact absurd (show false = true from hs) Bool.false_ne_true
  | byt i =>
    obtain ⟨t, rfl⟩ := rx
    cases y with
    | byt j => obtain ⟨t', rfl⟩ := ry; exact PySem.W.ne_bytes (fin_bl I q (congrArg not dec_byt))
    | _ => exact absurd (show false = true from hs) Bool.false_ne_true
  | _ => cases y <;> exact absurd (show false = true from hs) Bool.false_ne_true

theorem op_lt : OpR X (compareOp .Lt) (rI0 fun i j => .bl (decide (i < j))) := opB0 fun _ _ _ _ _ _ _ q => lt_int q
theorem op_le : OpR X (compareOp .LtE) (rI0 fun i j => .bl (decide (i ≤ j))) := opB0 fun _ _ _ _ _ _ _ q => le_int q
theorem op_gt : OpR X (compareOp .Gt) (rI0 fun i j => .bl (decide (j < i))) := opB0 fun _ _ _ _ _ _ _ q => gt_int q
theorem op_ge : OpR X (compareOp .GtE) (rI0 fun i j => .bl (decide (j ≤ i))) := opB0 fun _ _ _ _ _ _ _ q => ge_int q
theorem op_notN : OpR X (compareOp .IsNot) (fun x y H Q => y = .non ∧ Q (.bl (!decide (x = .non))) H) := by
  intro pins s σ H x y v u Q I rx ry h
  obtain ⟨rfl, q⟩ := h
  cases ry
  refine isnot_none_gen (fin_bl I q ?_)
  cases x <;> first
    | (cases rx; rfl)
    | (obtain ⟨t, rfl⟩ := rx; rfl)

/-- is, is not of two objects that are tracked lists or instances -/
def isObj : HO → Bool
  | .lst _ => true
  | .ins _ _ _ => true
  | _ => false
theorem nomark (b : Expr) {op : CmpOp} (h : op ≠ .In := by decide) (h2 : op ≠ .NotIn := by decide) : behindInMarks op b = false := by
  have e1 : (op == CmpOp.In) = false := by cases op <;> first | rfl | exact absurd rfl h
  have e2 : (op == CmpOp.NotIn) = false := by cases op <;> first | rfl | exact absurd rfl h2
  cases b <;> simp [behindInMarks, e1, e2]
/-- a comparison as a value; hm: nomark b, or (for in, not in) by with_unfolding_all rfl -/
theorem pe_cmpR {op : CmpOp} {r : R2} (ho : OpR X (compareOp op) r) (ha : PE X a ta) (hb : PE X b tb) (hm : behindInMarks op b = false) : PE X (.Compare a [op] [b] pos) (tOp r ta tb) := by
  intro pins s σ H Q I h
  exact wpAny_Compare1 (binT ha hb I h fun v u s2 x y H2 I2 rx ry q => ho pins s2 σ H2 x y v u Q I2 rx ry q) hm
/-- a reading of a value as a test -/
def tTest (t : TE) : TT := fun σ H Q => t σ H fun x H' => ∃ k, x = .bl k ∧ Q k H'
theorem pt_cmpR {op : CmpOp} {r : R2} (ho : OpR X (compareOp op) r) (ha : PE X a ta) (hb : PE X b tb) (hm : behindInMarks op b = false) : PT X (.Compare a [op] [b] pos) (tTest (tOp r ta tb)) := by
  intro pins s σ H Q I h
  refine wpAny_isTrue_Compare1 (thn (ha pins s σ H _ I h) fun v s1 ⟨x, H1, I1, r1, q1⟩ => thn (hb pins s1 σ H1 _ I1 q1) fun u s2 ⟨y, H2, I2, r2, q2⟩ =>
    thn (ho pins s2 σ H2 x y v u _ I2 r1 r2 q2) fun c s3 ⟨z, H3, I3, r3, k, e, q3⟩ => ?_) hm
  subst e
  cases r3
  exact wpAny_truthy_bool ⟨H3, I3, q3⟩
/-! ### truth -/
theorem line63 : (sizeLine : Nat) < 2 ^ 63 := by rw [sizeLine_eq]; decide
/-! ### strs and bytes -/
/-! ### scalar builtins, by CallR -/
theorem vals1 {x : V} {us : List Value} (r : Vals [x] us) : ∃ u, us = [u] ∧ RelV x u := by
  cases r with
  | cons r1 r2 => cases r2; exact ⟨_, rfl, r1⟩
theorem vals2 {x y : V} {us : List Value} (r : Vals [x, y] us) : ∃ u w', us = [u, w'] ∧ RelV x u ∧ RelV y w' := by
  cases r with
  | cons r1 r2 =>
    cases r2 with
    | cons r3 r4 => cases r4; exact ⟨_, _, rfl, r1, r3⟩
theorem call_abs : CallR X (.builtin "abs") (fun xs H Q => ∃ i, xs = [.int i] ∧ Q (.int (if i < 0 then -i else i)) H) := by
  intro pins s σ H xs us Q I r h
  obtain ⟨i, rfl, q⟩ := h
  obtain ⟨u, rfl, t, rfl⟩ := vals1 r
  exact call_abs_int fun u tk => ⟨.int (if i < 0 then -i else i), H, I.tok _, ⟨_, rfl⟩, q⟩
theorem call_max2 (hc : X.calm = true) : CallR X (.builtin "max") (fun xs H Q => ∃ i j, xs = [.int i, .int j] ∧ Q (.int (if j > i then j else i)) H) := by
  intro pins s σ H xs us Q I r h
  obtain ⟨i, j, rfl, q⟩ := h
  obtain ⟨u, w', rfl, ⟨t, rfl⟩, ⟨t', rfl⟩⟩ := vals2 r
  refine max_two_ints (I.ok.hd hc) fun h' tk k => ⟨_, H, I.kept k, ?_, q⟩
  by_cases hj : j > i
  · rw [if_pos hj, if_pos hj]; exact ⟨_, rfl⟩
  · rw [if_neg hj, if_neg hj]; exact ⟨_, rfl⟩
theorem call_min2 (hc : X.calm = true) : CallR X (.builtin "min") (fun xs H Q => ∃ i j, xs = [.int i, .int j] ∧ Q (.int (if j < i then j else i)) H) := by
  intro pins s σ H xs us Q I r h
  obtain ⟨i, j, rfl, q⟩ := h
  obtain ⟨u, w', rfl, ⟨t, rfl⟩, ⟨t', rfl⟩⟩ := vals2 r
  refine min_two_ints (I.ok.hd hc) fun h' tk k => ⟨_, H, I.kept k, ?_, q⟩
  by_cases hj : j < i
  · rw [if_pos hj, if_pos hj]; exact ⟨_, rfl⟩
  · rw [if_neg hj, if_neg hj]; exact ⟨_, rfl⟩
theorem call_int1 : CallR X (.type "int") (fun xs H Q => (∃ i, xs = [.int i] ∧ Q (.int i) H) ∨ ∃ k, xs = [.bl k] ∧ Q (.int (if k then 1 else 0)) H) := by
  intro pins s σ H xs us Q I r h
  rcases h with ⟨i, rfl, q⟩ | ⟨k, rfl, q⟩
  · obtain ⟨u, rfl, t, rfl⟩ := vals1 r
    exact call_int_int ⟨.int i, H, I, ⟨_, rfl⟩, q⟩
  · obtain ⟨u, rfl, r1⟩ := vals1 r
    cases r1
    exact call_int_bool ⟨.int (if k then 1 else 0), H, I.tok _, ⟨_, rfl⟩, q⟩
end
end L2

namespace L2
open PySem PySem.Spec PyProof.Rows

/-! ### an instance, its attributes a map -/
structure ObjM (h : Heap) (x dx C : Addr) (mA : Str → Option Value) : Prop where
  obj : h.get? x = some (PySem.W.instObj C dx)
  ns : h.Ns1 dx mA
  ne : dx ≠ x

theorem lookIn_ns {h : Heap} {dx : Addr} {mA : Str → Option Value} (n : h.Ns1 dx mA) : ∃ od, h.get? dx = some od ∧ ∀ name, PySem.W.lookIn name od = some (mA name) := by
  obtain ⟨o, es, ep, ho, hd, hk, _, hm⟩ := n
  refine ⟨o, ho, fun name => ?_⟩
  have e := hm name
  unfold nsFind findBy at e
  rw [← Array.find?_toList] at e
  unfold PySem.W.lookIn
  rw [hd]
  dsimp only
  split
  · rename_i y q
    rw [q] at e
    exact congrArg some e
  · rename_i q
    rw [q] at e
    have a : es.toList.any (·.refKey) = false := by
      rw [List.any_eq_false]
      intro y hy
      obtain ⟨z, t, hkey⟩ := hk y (Array.mem_toList_iff.mp hy)
      simp [DictEntry.refKey, hkey]
    have a' : ¬ es.toList.any (·.refKey) = true := by rw [a]; exact Bool.false_ne_true
    rw [if_neg a']
    exact congrArg some e

theorem ObjM.look {h : Heap} {x dx C : Addr} {mA : Str → Option Value} (I : ObjM h x dx C mA) : ∃ od, PySem.W.InstAt h x (PySem.W.instObj C dx) C (some od) ∧ ∀ name, PySem.W.lookIn name od = some (mA name) :=
  let ⟨od, ho, hl⟩ := lookIn_ns I.ns
  ⟨od, ⟨I.obj, rfl, rfl, ho⟩, hl⟩

section
variable {prog : Program} {w : World} {A : Around} {E : Value → Shared → Prop} {s : Shared} {K : PySem.W.Frag} {x dx C f : Addr} {mA : Str → Option Value} {name : Str} {v : Value}

end

/-! ### the attributes as a list of pairs -/
theorem RelO.some_of {v : V} {o : Option Value} (r : RelO (some v) o) : ∃ u, o = some u ∧ RelV v u := by
  cases o with
  | none => exact (show False from r).elim
  | some u => exact ⟨u, rfl, r⟩
section
variable {P : Program} {w : World} {H H' : Hp} {h h' : Heap} {a C dx : Addr} {fs fs' : List (Str × V)}
theorem ins_get (hok : HOk P w H h) (e : H a = some (.ins C dx fs)) : ∃ mA, ObjM h a dx C mA ∧ (∀ f, RelO (fs.lookup f) (mA f)) ∧ PySem.Within mA (fs.map (·.1)) ∧ fs.length ≤ 1000 ∧ H dx = some (.own a) := by
  obtain ⟨d, z, ne, ob, mA, n, r, q⟩ := (show ObjOk P w H h a (.ins C dx fs) from hok a _ e)
  exact ⟨mA, ⟨ob, n, ne⟩, r, q, z, d⟩
end

/-! ### what of the text a class must have -/
structure Cls (K : PySem.W.Frag) (C : Addr) : Prop where
  pg : PySem.W.plainGet K C Str.empty = true
  hd : PySem.W.hasDictIn K C = true
  po : PySem.W.plainOver K C = true
  sa : PySem.W.findIn K (.ref C) "__setattr__" = some (some (.builtin "object.__setattr__"))
theorem Cls.get {K : PySem.W.Frag} {C : Addr} (c : Cls K C) (f : Str) : PySem.W.plainGet K C f = true := c.pg
section
variable {X : Cx} {pins : List (Addr × Obj)} {σ : St} {H : Hp} {s : Shared} {a C dx : Addr} {fs : List (Str × V)} {f : Str} {v : V} {A : Around} {E : Value → Shared → Prop}

end

/-! ### readings and rules -/
section
variable {X : Cx} {o e value : Expr} {f : Str} {pos pos' tpos : Pos} {ta tv : TE}
end

/-! ### isinstance -/
section
variable {X : Cx} {pins : List (Addr × Obj)} {σ : St} {H : Hp} {s : Shared} {A : Around} {E : Value → Shared → Prop} {Q : Value → Shared → Prop} {c : Value} {b : Bool}
/-- the type of a value, as the fragment's deciders take it; for an instance its class -/
inductive TyOf (K : PySem.W.Frag) (H : Hp) : V → Value → Prop where
  | non : TyOf K H .non (.type "NoneType")
  | bl (x : Bool) : TyOf K H (.bl x) (.type "bool")
  | int (i : Int) : TyOf K H (.int i) (.type "int")
  | str (x : Str) : TyOf K H (.str x) (.type "str")
  | flt (x : UInt64) : TyOf K H (.flt x) (.type "float")
  | lst {a : Addr} {xs : List V} (e : H a = some (.lst xs)) : TyOf K H (.ref a) (.type "list")
  | frz {a : Addr} {o : Obj} {xs : List V} (e : H a = some (.frz o (.lst xs))) : TyOf K H (.ref a) (.type "list")
  | tup {a : Addr} {xs : List V} (e : H a = some (.tup xs)) : TyOf K H (.ref a) (.type "tuple")
  | dK {a : Addr} {kvs : List (Key × V)} (e : H a = some (.dK kvs)) : TyOf K H (.ref a) (.type "dict")
  | dT {a : Addr} {kvs : List (List Key × V)} (e : H a = some (.dT kvs)) : TyOf K H (.ref a) (.type "dict")
  | ins {a C dx : Addr} {fs : List (Str × V)} (e : H a = some (.ins C dx fs)) (cl : Cls K C) (ha : PySem.W.findIn K (.ref C) "__class__" = some (some (.builtin "object.__class__")))
      (hn : PySem.W.specialIn K (.builtin "object.__class__") "__get__" = some (some (.builtin "getset_descriptor.__get__"))) (htk : PySem.W.takesIn K (.builtin "object.__class__") = some true)
      (hm : PySem.W.mroIn K C (.type "object") = some true) : TyOf K H (.ref a) (.ref C)
/-- isinstance(x, c) for one class c, a built-in or an own one: kitOne's answer -/
theorem isinst_ok {x : V} {u t : Value} (I : Inv X pins σ H s) (rx : RelV x u) (ty : TyOf X.K H x t) (e : PySem.W.kitOne X.K t c = some b) (h : ∀ tk, Q (.bool b) { s with toks := tk }) :
    wpAny (model X.prog X.w) A (call (.builtin "isinstance") [u, c]) Q E s := by
  cases ty with
  | non => cases (show u = Value.none from rx); exact PySem.W.kia_one PySem.W.kitx_none I.kIn True.intro e (fun z => nomatch z) h
  | bl y => cases (show u = Value.bool y from rx); exact PySem.W.kia_one PySem.W.kitx_bool I.kIn True.intro e (fun z => nomatch z) h
  | int i => obtain ⟨t, q⟩ := (show ∃ t, u = Value.int i t from rx); cases q; exact PySem.W.kia_one PySem.W.kitx_int I.kIn True.intro e (fun z => nomatch z) h
  | str y => obtain ⟨t, q⟩ := (show ∃ t, u = Value.str y t from rx); cases q; exact PySem.W.kia_one PySem.W.kitx_str I.kIn True.intro e (fun z => nomatch z) h
  | flt y => obtain ⟨t, q⟩ := (show ∃ t, u = Value.float y t from rx); cases q; exact PySem.W.kia_one PySem.W.kitx_float I.kIn True.intro e (fun z => nomatch z) h
  | @lst a xs ea =>
    cases (show u = Value.ref a from rx)
    obtain ⟨_, _, n, _, h1⟩ := (show ObjOk X.prog X.w H s.heap a (.lst xs) from I.hok a _ ea)
    exact PySem.W.kia_one PySem.W.kitx_list I.kIn ⟨_, h1, rfl⟩ e (fun z => nomatch z) h
  | @frz a ob xs ea =>
    cases (show u = Value.ref a from rx)
    obtain ⟨_, _, _, n, _, h1⟩ := (show ObjOk X.prog X.w H s.heap a (.frz ob (.lst xs)) from I.hok a _ ea)
    exact PySem.W.kia_one PySem.W.kitx_list I.kIn ⟨_, h1, rfl⟩ e (fun z => nomatch z) h
  | @tup a xs ea =>
    cases (show u = Value.ref a from rx)
    obtain ⟨_, _, _, p⟩ := (show ObjOk X.prog X.w H s.heap a (.tup xs) from I.hok a _ ea)
    obtain ⟨o, h1, h2, _⟩ := p
    exact PySem.W.kia_one PySem.W.kitx_tuple I.kIn ⟨o, h1, h2⟩ e (fun z => nomatch z) h
  | @dK a kvs ea =>
    cases (show u = Value.ref a from rx)
    obtain ⟨_, _, vs, _, p⟩ := (show ObjOk X.prog X.w H s.heap a (.dK kvs) from I.hok a _ ea)
    obtain ⟨o, es, ep, h1, h2, _⟩ := p
    exact PySem.W.kia_one PySem.W.kitx_dict I.kIn ⟨o, h1, h2.1⟩ e (fun z => nomatch z) h
  | @dT a kvs ea =>
    cases (show u = Value.ref a from rx)
    obtain ⟨_, _, xs, _, o, es, ep, h1, h2, _⟩ := (show ObjOk X.prog X.w H s.heap a (.dT kvs) from I.hok a _ ea)
    exact PySem.W.kia_one PySem.W.kitx_dict I.kIn ⟨o, h1, h2.1⟩ e (fun z => nomatch z) h
  | @ins a C dx fs ea cl ha hn htk hm =>
    cases (show u = Value.ref a from rx)
    obtain ⟨mA, O, _⟩ := ins_get I.hok ea
    obtain ⟨od, J, _⟩ := O.look
    exact PySem.W.kia_one (PySem.W.kitx_own (cl.get _) cl.hd ha hn htk hm) I.kIn J e (fun z => nomatch z) h
end
end L2

namespace L2
open PySem PySem.Spec PyProof.Rows

/-! ### room -/
structure Room (k : Nat) (A : Around) : Prop where
  hd : A.handled = none
  dp : A.depth + 3 * k + 5 < recursionLimit
  un : A.units + 16 * k + 200 < cLine
theorem Room.mono {j k : Nat} {A : Around} (r : Room k A) (h : j ≤ k) : Room j A := ⟨r.hd, by have := r.dp; omega, by have := r.un; omega⟩
theorem Room.deeper {k : Nat} {A : Around} (r : Room (k + 1) A) (env : Env) : Room k (A.deeper env) :=
  ⟨r.hd, by have := r.dp; show A.depth + 1 + 3 * k + 5 < _; omega, by have := r.un; show A.units + 3 + 16 * k + 200 < _; omega⟩
theorem Room.depth {k : Nat} {A : Around} (r : Room k A) : A.depth < recursionLimit := by have := r.dp; omega
theorem Room.units {k : Nat} {A : Around} (r : Room k A) : A.units + 64 < cLine := by have := r.un; omega
/-! ### argument lists and displays -/
def tNil : TA := fun _ H Q => Q [] H
def tCons (ta : TE) (tr : TA) : TA := fun σ H Q => ta σ H fun x H1 => tr σ H1 fun xs H2 => Q (x :: xs) H2
section
variable {X : Cx} {e : Expr} {es : List Expr} {te : TE} {t : TA} {pos : Pos}
theorem pa_nil : PA X [] tNil := fun _ _ _ _ H Q I h => Calls.spliced_nil ⟨[], H, I, .nil, h⟩
theorem pa_cons (ha : PE X e te) (hr : PA X es t) (hs : starEach (e :: es) X.env = (false, eval e X.env) :: starEach es X.env := by rfl) : PA X (e :: es) (tCons te t) := by
  intro pos pins s σ H Q I h
  rw [hs]
  show wpAny _ _ (spliced ((false, eval e X.env) :: backTo pos (starEach es X.env))) _ _ s
  refine Calls.spliced_cons (thn (ha pins s σ H _ I h) fun u s1 ⟨x, H1, I1, r1, q1⟩ => ?_)
  exact thn (hr pos pins s1 σ H1 _ I1 q1) fun us s2 ⟨xs, H2, I2, r2, q2⟩ => ⟨x :: xs, H2, I2, .cons r1 r2, q2⟩

/-- a tuple, a list of written items -/
def tTup (t : TA) : TE := fun σ H Q => t σ H fun xs H1 => xs.length ≤ sizeLine ∧ ∀ p, H1 p = none → Q (.ref p) (upd H1 p (.tup xs))
def tLst (t : TA) : TE := fun σ H Q => t σ H fun xs H1 => xs.length ≤ sizeLine ∧ ∀ p, H1 p = none → Q (.ref p) (upd H1 p (.lst xs))
theorem pe_tup {x1} (h : PA X es t) : PE X (.Tuple es x1 pos) (tTup t) := by
  intro pins s σ H Q I hq
  refine wpAny_Tuple_spliced (thn (h pos pins s σ H _ I hq) fun us s1 ⟨xs, H1, I1, r, z, q⟩ => ⟨by rw [← r.length]; exact z, ?_⟩)
  have hf : H1 s1.heap.objs.size = none := I1.hok.fresh (Nat.le_refl _)
  refine ⟨.ref s1.heap.objs.size, upd H1 s1.heap.objs.size (.tup xs), I1.laid (t' := s1.toks) (fun b u e => Heap.get?_push_of_some _ e) (Nat.le_refl _) ?_, rfl, q _ hf⟩
  exact ⟨z, us, r, ⟨_, Heap.get?_push_size _ rfl, rfl, _, rfl⟩⟩
theorem pe_lst (h : PA X es t) : PE X (.List es pos) (tLst t) := by
  intro pins s σ H Q I hq
  refine wpAny_List_spliced (thn (h pos pins s σ H _ I hq) fun us s1 ⟨xs, H1, I1, r, z, q⟩ => ⟨by rw [← r.length]; exact z, ?_⟩)
  have hf : H1 s1.heap.objs.size = none := I1.hok.fresh (Nat.le_refl _)
  refine ⟨.ref s1.heap.objs.size, upd H1 s1.heap.objs.size (.lst xs), I1.laid (t' := s1.toks) (fun b u e => Heap.get?_push_of_some _ e) (Nat.le_refl _) ?_, rfl, q _ hf⟩
  exact ⟨z, us, 0, r, Heap.get?_push_size _ rfl⟩
end

/-! ### what a def promises -/
/-- a def's promise: the bound arguments in the parameters' order, the heap, the wanted end, the wanted exception -/
abbrev Sp := List V → Hp → VK → XK → Prop
/-- how an exception lies behind a call (file 08 gives it): the callers' frames, abstract heap and state ahead of the call, the wish, the exception, the state -/
abbrev CXT := List Env → Hp → Shared → XK → Value → Shared → Prop

/-- the state at a call -/
structure Env0 (P : Program) (w : World) (K : PySem.W.Frag) (mg : Str → Option Value) (base : Heap) (A : Around) (outer : List Env) (s : Shared) (H : Hp) : Prop where
  frames : A.frames = some outer
  mod : Mod K mg base
  bs : ∀ b o, base.get? b = some o → s.heap.get? b = some o ∧ H b = none
  bsz : base.objs.size ≤ s.heap.objs.size
  funs : s.heap.FunFrames base outer
  frf : ∀ b ∈ frs outer, H b = none
  hok : HOk P w H s.heap
  bare : AllBare s.gens
/-- a call's end -/
def CE (outer : List Env) (P : Program) (w : World) (H : Hp) (s : Shared) (Q : VK) (u : Value) (s' : Shared) : Prop :=
  ∃ v H', s'.os = s.os ∧ AllBare s'.gens ∧ Un (frs outer) [] H H' s.heap s'.heap ∧ HOk P w H' s'.heap ∧ RelV v u ∧ Q v H'
def CR (CX : CXT) (outer : List Env) (P : Program) (w : World) (H : Hp) (s : Shared) (Q : VK) (E : XK) (r : Result) (s' : Shared) : Prop :=
  match r with
  | .ok (.ret u) => CE outer P w H s Q u s'
  | .ok _ => False
  | .error e => CX outer H s E e s'
structure FnOk (P : Program) (w : World) (K : PySem.W.Frag) (mg : Str → Option Value) (base : Heap) (CX : CXT) (k : Nat) (f : Addr) (fd : FuncData) (ps : List Str) (sp : Sp) : Prop where
  len : ∀ vs H Q E, sp vs H Q E → vs.length = ps.length
  run : ∀ (A : Around) (outer : List Env) (s : Shared) (H : Hp) (args : Args) (us : List Value) (vs : List V) (Q : VK) (E : XK), Room k A → Env0 P w K mg base A outer s H → BindsTo s fd args (ps.zip us) → Vals vs us → sp vs H Q E →
    codeAny (model P w) A (.call (.ref f) args) (CR CX outer P w H s Q E) s
section
variable {X : Cx} {pins : List (Addr × Obj)} {σ : St} {H : Hp} {s s' : Shared}
/-- from a body: what a callee wants -/
theorem Inv.env0 (I : Inv X pins σ H s) : Env0 X.prog X.w X.K X.mg X.base X.A X.stack s H :=
  ⟨I.ok.frames, I.ok.mod, I.bs, Nat.le_trans I.ok.bsz I.sz, I.stack, I.stkFree, I.hok, I.bare⟩
/-- behind a call -/
theorem Inv.after {Q : VK} {u : Value} (I : Inv X pins σ H s) (h : CE X.stack X.prog X.w H s Q u s') : EP X pins σ Q u s' := by
  obtain ⟨v, H', os, bare, un, hok, r, q⟩ := h
  obtain ⟨hh, g, d, t, os'⟩ := s'
  obtain rfl : os' = s.os := os
  exact ⟨v, H', I.call (h' := hh) (g' := g) (d' := d) (t' := t) (ch := []) un hok bare (fun b z => absurd z (by simp)), r, q⟩
end

/-! ### calls -/
/-- f(..): the written arguments, then the defaults dvs; E: what is wanted of an exception -/
def tCall (sp : Sp) (dvs : List V) (E : XK) (t : TA) : TE := fun σ H Q => t σ H fun vs H1 => sp (vs ++ dvs) H1 Q E
/-- how the parameters are bound: us the positional arguments, kw the keywords' values by name, ds the defaults that fill up -/
def Binds (K : PySem.W.Frag) (fd : FuncData) (ps : List Str) (ds : List Value) : Prop :=
  ∀ (s : Shared) (us : List Value), K.In s.heap → (us ++ ds).length = ps.length → BindsTo s fd ⟨us, []⟩ (ps.zip (us ++ ds))
/-- every parameter is given -/
theorem Binds.all {K : PySem.W.Frag} {fd : FuncData} {ps : List Str} (h : ∀ us : List Value, us.length = ps.length → bindArgs fd ⟨us, []⟩ = pure (ps.zip us)) : Binds K fd ps [] := fun s us _ hl => by
  rw [List.append_nil] at hl ⊢
  exact .of_eq (h us hl)

/-- an exception of a callee reaches what this body wants of exceptions -/
def Passes (CX : CXT) (X : Cx) (E : XK) : Prop := ∀ (pins : List (Addr × Obj)) (σ : St) (H : Hp) (s : Shared) (e : Value) (s' : Shared), Inv X pins σ H s → CX X.stack H s E e s' → X.xe e s'

section
variable {X : Cx} {CX : CXT} {k : Nat} {f C : Addr} {fd : FuncData} {ps : List Str} {sp : Sp} {dvs : List V} {ds : List Value} {E : XK} {x m : Str} {p pos apos : Pos} {e o : Expr} {es : List Expr} {ta : TE} {t : TA}

/-- the callee runs -/
theorem run_fn {pins : List (Addr × Obj)} {σ : St} {H : Hp} {s : Shared} {Q : VK} {us : List Value} {vs : List V} (F : FnOk X.prog X.w X.K X.mg X.base CX k f fd ps sp) (hr : Room k X.A) (hb : Binds X.K fd ps ds) (hd : Vals dvs ds) (hx : Passes CX X E)
    (I : Inv X pins σ H s) (r : Vals vs us) (h : sp (vs ++ dvs) H Q E) : wpAny (model X.prog X.w) X.A (call (.ref f) us) (EP X pins σ Q) X.xe s := by
  have r2 : Vals (vs ++ dvs) (us ++ ds) := r.append hd
  have hl : (us ++ ds).length = ps.length := by rw [← r2.length]; exact F.len _ _ _ _ h
  refine wpAny_call (codeAny_mono (F.run X.A X.stack s H ⟨us, []⟩ (us ++ ds) (vs ++ dvs) Q E hr I.env0 (hb s us I.kIn hl) r2 h) fun r s' hq => ?_)
  cases r with
  | error e => exact hx pins σ H s e s' I hq
  | ok fl =>
    cases fl with
    | ret u => exact I.after hq
    | next => exact False.elim hq
    | brk => exact False.elim hq
    | cont => exact False.elim hq

theorem pe_call (F : FnOk X.prog X.w X.K X.mg X.base CX k f fd ps sp) (hr : Room k X.A) (hg : Gl X x) (hm : X.mg x = some (.ref f)) (hk : PySem.W.keepIn X.K (.ref f) = true) (hb : Binds X.K fd ps ds) (hd : Vals dvs ds) (hx : Passes CX X E)
    (ha : PA X (e :: es) t) (hdb : (x == ("__debug__" : Str)) = false := by decide) (he : starEach (e :: es) X.env = (false, eval e X.env) :: starEach es X.env := by rfl) (hpl : (backTo pos (starEach es X.env)).any (·.1) = false := by rfl) :
    PE X (.Call (.Name x p) (e :: es) [] pos) (tCall sp dvs E t) := by
  intro pins s σ H Q I h
  refine wpAny_Call_Name_kw (ld_glob I hg hm ?_ hdb)
  refine PySem.W.callWith_K (h₀ := X.base) I.ok.mod.kin hk (thn (ha pos pins s σ H _ I h) fun us s1 ⟨vs, H1, I1, r, q⟩ => ⟨I1.kIn, ?_⟩) he hpl
  exact run_fn F hr hb hd hx I1 r q
end

/-! ### keywords -/
section
variable {X : Cx} {CX : CXT} {k : Nat} {f C : Addr} {fd : FuncData} {ps ks : List Str} {sp : Sp} {E : XK} {x m : Str} {p pos apos kpos : Pos} {e o : Expr} {es : List Expr} {kws : List Keyword} {te ta : TE} {t tk : TA} {nm : Option Str}
variable {g : List Value → List Value → List Value} {gV : List V → List V → List V}
end

/-! ### a def's body keeps its promise -/
/-- names: the parameters first -/
structure FnScope (N P : List Str) (sc : Scope) : Prop where
  kind : sc.kind = .function
  co : sc.isCoroutine = false
  gen : sc.isGenerator = false
  nd : N.Nodup
  pre : N.take P.length = P
  par : ∀ x ∈ P, sc.names.lookup x = some .local ∨ sc.names.lookup x = some .cell
  nofree : ∀ y ∈ sc.names, y.2 ≠ .free

theorem bindL_out {kindOf : Str → Option NameKind} {x : Str} : ∀ {binds : List (Str × Value)} {m : Str → Option Value}, (∀ v, (x, v) ∉ binds) → bindL kindOf binds m x = m x
  | [], _, _ => rfl
  | (n, v) :: r, m, h => by
    unfold bindL
    rw [bindL_out fun w hw => h w (List.mem_cons_of_mem _ hw)]
    split
    · have : x ≠ n := by rintro rfl; exact h v List.mem_cons_self
      simp [this]
    · rfl
theorem bindC_out {kindOf : Str → Option NameKind} {x : Str} : ∀ {binds : List (Str × Value)} {m : Str → Option Value}, (∀ v, (x, v) ∉ binds) → bindC kindOf binds m x = m x
  | [], _, _ => rfl
  | (n, v) :: r, m, h => by
    unfold bindC
    rw [bindC_out fun w hw => h w (List.mem_cons_of_mem _ hw)]
    split
    · rfl
    · have : x ≠ n := by rintro rfl; exact h v List.mem_cons_self
      simp [this]
theorem bindL_get {kindOf : Str → Option NameKind} {x : Str} {v : Value} : ∀ {P : List Str} {vs : List Value} {i : Nat} {m : Str → Option Value}, P.Nodup → P[i]? = some x → vs[i]? = some v → kindOf x = some .local →
    bindL kindOf (P.zip vs) m x = some v
  | [], _, _, _, _, h, _, _ => by simp at h
  | _ :: _, [], _, _, _, _, h, _ => by simp at h
  | p :: P, w :: vs, 0, m, nd, h1, h2, hk => by
    simp at h1 h2; subst h1; subst h2
    show bindL kindOf ((p, w) :: P.zip vs) m p = _
    unfold bindL
    rw [bindL_out fun v hv => (List.nodup_cons.mp nd).1 (List.of_mem_zip hv).1, if_pos hk]
    simp
  | p :: P, w :: vs, i + 1, m, nd, h1, h2, hk => by
    show bindL kindOf ((p, w) :: P.zip vs) m x = _
    unfold bindL
    exact bindL_get (i := i) (List.nodup_cons.mp nd).2 (by simpa using h1) (by simpa using h2) hk
theorem bindC_get {kindOf : Str → Option NameKind} {x : Str} {v : Value} : ∀ {P : List Str} {vs : List Value} {i : Nat} {m : Str → Option Value}, P.Nodup → P[i]? = some x → vs[i]? = some v → kindOf x ≠ some .local →
    bindC kindOf (P.zip vs) m x = some v
  | [], _, _, _, _, h, _, _ => by simp at h
  | _ :: _, [], _, _, _, _, h, _ => by simp at h
  | p :: P, w :: vs, 0, m, nd, h1, h2, hk => by
    simp at h1 h2; subst h1; subst h2
    show bindC kindOf ((p, w) :: P.zip vs) m p = _
    unfold bindC
    rw [bindC_out fun v hv => (List.nodup_cons.mp nd).1 (List.of_mem_zip hv).1, if_neg hk]
    simp
  | p :: P, w :: vs, i + 1, m, nd, h1, h2, hk => by
    show bindC kindOf ((p, w) :: P.zip vs) m x = _
    unfold bindC
    exact bindC_get (i := i) (List.nodup_cons.mp nd).2 (by simpa using h1) (by simpa using h2) hk

/-- the names' values at the entry -/
def start (N : List Str) (vs : List V) : St := vs.map some ++ List.replicate (N.length - vs.length) none

/-- the context of a def's body, at its entry; an exception leaves the frame, then lies as CX says -/
def cxOf (CX : CXT) (P : Program) (w : World) (K : PySem.W.Frag) (mg : Str → Option Value) (base : Heap) (N : List Str) (qual : Str) (scope : Scope) (f : Addr) (cd : Value) (A : Around) (outer : List Env) (s : Shared) (H : Hp) (E : XK) : Cx where
  prog := P
  w := w
  K := K
  mg := mg
  base := base
  A := A.deeper (envOfC qual scope s.heap.objs.size f cd)
  N := N
  s₀ := s
  H₀ := H
  env := envOfC qual scope s.heap.objs.size f cd
  outer := outer
  stack := envOfC qual scope s.heap.objs.size f cd :: outer
  ex := []
  calm := true
  fn := fun _ => true
  pn := []
  xe := fun e s' => wpAny (model P w) (A.deeper (envOfC qual scope s.heap.objs.size f cd)) (leaving (envOfC qual scope s.heap.objs.size f cd) e) (fun _ s'' => CX outer H s E e s'') (fun e' s'' => CX outer H s E e' s'') s'

theorem cell_has {sc : Scope} {n : Nat} {x : Str} (h : sc.names.lookup x = some .cell) : ∃ c, (cellsFrom n sc.names []).lookup x = some c := by
  have q := PySem.W.cellsFrom_some sc.names n [] (.inl h)
  exact Option.isSome_iff_exists.mp q

theorem inv_start {CX : CXT} {P : Program} {w : World} {K : PySem.W.Frag} {mg : Str → Option Value} {base : Heap} {N ps : List Str} {qual : Str} {scope : Scope} {f : Addr} {cd : Value} {A : Around} {outer : List Env} {s s1 : Shared} {H : Hp} {E : XK} {us : List Value} {vs : List V}
    (S : FnScope N ps scope) (hd : A.handled = none) (e0 : Env0 P w K mg base A outer s H) (hl : vs.length = ps.length) (r : Vals vs us)
    (x : InCallC s s.heap.objs.size (bindL (envOfC qual scope s.heap.objs.size f cd).kindOf (ps.zip us) fun _ => none) (cellsFrom (s.heap.objs.size + 1) scope.names []) (bindC (envOfC qual scope s.heap.objs.size f cd).kindOf (ps.zip us) fun _ => none) s1) :
    Inv (cxOf CX P w K mg base N qual scope f cd A outer s H E) [] (start N vs) H s1 := by
  have hpl : ps.length ≤ N.length := by have := congrArg List.length S.pre; rw [List.length_take] at this; omega
  obtain ⟨h1, tk, rfl, hk⟩ := x.done
  have noA : ∀ b : Addr, b ∉ (cxOf CX P w K mg base N qual scope f cd A outer s H E).ex := fun b z => absurd (show b ∈ ([] : List Addr) from z) (by simp)
  refine ⟨⟨e0.mod, S.kind, rfl, rfl, Nat.le_refl _, fun y z c h1 h2 => ?_, fun y hy => ?_, fun y c _ h => ?_, fun _ => hd, Around.frames_deeper e0.frames, .inr ⟨rfl, rfl⟩, fun b z => absurd z (noA b), e0.bs, e0.bsz, fun b _ _ => noA b, fun b z => absurd z (noA b), e0.funs, e0.frf⟩,
    rfl, e0.bare, Un.kept hk, ⟨_, x.toInCall.ns, fun i y v h1 h2 h3 => ?_⟩, fun y c h => ⟨_, x.cell y c h⟩, e0.hok.fresh (Nat.le_refl _), fun y c h => ?_, fun p hp => absurd (show p ∈ ([] : List (Addr × Obj)) from hp) (by simp), e0.hok.kept hk, ?_⟩
  · exact name_of_addr x.apart (PySem.mem_of_lookup h1) (PySem.mem_of_lookup h2)
  · have hy : scope.names.lookup y = some .cell ∨ scope.names.lookup y = some .free := hy
    rcases hy with hy | hy
    · exact cell_has hy
    · exact absurd rfl (S.nofree _ (PySem.mem_of_lookup hy))
  · exact Nat.le_of_lt (x.above y c (PySem.mem_of_lookup h))
  · have hi : i < vs.length := by
      unfold start at h2
      by_cases hi : i < vs.length
      · exact hi
      · rw [List.getElem?_append_right (by simpa using hi)] at h2
        rw [List.getElem?_replicate] at h2
        split at h2 <;> cases h2
    have ha : vs[i]? = some v := by
      unfold start at h2
      rw [List.getElem?_append_left (by simpa using hi), List.getElem?_map] at h2
      cases e : vs[i]? with
      | none => rw [e] at h2; cases h2
      | some a => rw [e] at h2; cases h2; rfl
    obtain ⟨u, hu, rv⟩ := r.get ha
    have hp : ps[i]? = some y := by
      rw [← S.pre, List.getElem?_take_of_lt (by omega)]; exact h1
    have ndP : ps.Nodup := by rw [← S.pre]; exact S.nd.sublist (List.take_sublist _ _)
    refine ⟨u, rv, ?_⟩
    rcases S.par y (List.mem_of_getElem? hp) with k | k
    · exact .inl ⟨k, bindL_get ndP hp hu k⟩
    · obtain ⟨c, e⟩ := cell_has (n := s.heap.objs.size + 1) k
      refine .inr ⟨.inl k, c, e, ?_⟩
      have q := x.cell y c e
      rw [bindC_get ndP hp hu (by show scope.names.lookup y ≠ _; rw [k]; decide)] at q
      exact q
  · exact e0.hok.fresh (Nat.le_of_lt (x.above y c (PySem.mem_of_lookup h)))
  · unfold start
    show _ = N.length
    rw [List.length_append, List.length_map, List.length_replicate]
    omega

/-- THE RULE: a def (or a method) of the text, by its body. The body's reading t is chosen for each entry; it is run at the parameters' values -/
theorem fn_of {CX : CXT} {P : Program} {w : World} {K : PySem.W.Frag} {mg : Str → Option Value} {base : Heap} {k : Nat} {f : Addr} {name qual : Str} {params : Arguments} {body : List Stmt} {scope : Scope} {dV kV doc pm cdv ct oc : Value} {an od : Option Addr}
    {osl : Array (Option Value)} {N ps : List Str} {sp : Sp} (lk : K.lookup f = some ⟨oc, od, .func (PySem.W.fnOf name qual params body scope dV kV doc pm an cdv ct), osl⟩) (hcd : PySem.W.codeIn K cdv qual = true) (S : FnScope N ps scope)
    (len : ∀ vs H Q E, sp vs H Q E → vs.length = ps.length)
    (hbody : ∀ (A : Around) (outer : List Env) (s : Shared) (H : Hp) (vs : List V) (Q : VK) (E : XK), Room k (A.deeper (envOfC qual scope s.heap.objs.size f cdv)) → sp vs H Q E →
      ∃ t, PSs (cxOf CX P w K mg base N qual scope f cdv A outer s H E) body t ∧ t { nx := fun _ H' => Q .non H', rt := Q } (start N vs) H) :
    FnOk P w K mg base CX (k + 1) f (PySem.W.fnOf name qual params body scope dV kV doc pm an cdv ct) ps sp := by
  refine ⟨len, fun A outer s H args us vs Q E hr e0 hb r hsp => ?_⟩
  have hl := len _ _ _ _ hsp
  have KX : K.In s.heap := e0.mod.kin.keeps fun b o e => (e0.bs b o e).1
  have lim : s.heap.NoLimit := e0.mod.nolimit.keeps fun b o e => (e0.bs b o e).1
  have hkind : ∀ y ∈ ps.zip us, scope.names.lookup y.1 = some .local ∨ (scope.names.lookup y.1 = some .cell ∧ ((cellsFrom (s.heap.objs.size + 1) scope.names []).lookup y.1).isSome = true) := fun ⟨n, v⟩ hy => by
    rcases S.par n (List.of_mem_zip hy).1 with q | q
    · exact .inl q
    · exact .inr ⟨q, PySem.W.cellsFrom_some _ _ _ (.inl q)⟩
  refine codeAny_call_function hr.depth (KX _ _ lk) rfl S.co S.gen rfl (PySem.W.codeRec_of KX hcd) (hb _ _ _ _ ?_)
  refine wpAny_newFunctionEnv_cells S.kind hkind fun env he s1 x => ?_
  subst he
  refine ⟨lim.keeps x.toInCall.keep, codeAny_func ?_⟩
  obtain ⟨t, ht, hq⟩ := hbody A outer s H vs Q E (hr.deeper _) hsp
  have I : Inv (cxOf CX P w K mg base N qual scope f cdv A outer s H E) [] (start N vs) H s1 := inv_start S hr.hd e0 hl r x
  refine wpAny_mono (ht [] s1 (start N vs) H _ I hq) (fun fl s' hs => ?_) fun e s' hs => hs
  have fin : ∀ {σ' : St} {H' : Hp} {v : V} {u : Value}, Inv (cxOf CX P w K mg base N qual scope f cdv A outer s H E) [] σ' H' s' → RelV v u → Q v H' → CE outer P w H s Q u s' :=
    fun {σ' H' v u} J rv q => ⟨v, H', J.os, J.bare, J.base, J.hok, rv, q⟩
  cases fl with
  | ret u =>
    obtain ⟨v, σ', H', J, rv, q⟩ := hs
    exact fin J rv q
  | next =>
    obtain ⟨σ', H', J, q⟩ := hs
    exact fin (v := V.non) (u := Value.none) J rfl q
  | brk =>
    obtain ⟨_, _, _, q⟩ := hs
    exact False.elim q
  | cont =>
    obtain ⟨_, _, _, q⟩ := hs
    exact False.elim q
end L2

namespace L2
open PySem PySem.Spec PyProof.Rows
section
variable {X : Cx} {x : Str} {p pos : Pos} {e : Expr} {es : List Expr} {t : TA} {id T : String} {r : List V → Hp → VK → Prop}

def tCB (r : List V → Hp → VK → Prop) (t : TA) : TE := fun σ H Q => t σ H fun vs H1 => r vs H1 Q
/-- f(e, ..), f a built-in function -/
theorem pe_callB (hc : CallR X (.builtin id) r) (hg : Gl X x) (hm : X.mg x = none) (hv : bootBuiltins x = some (.builtin id)) (ha : PA X (e :: es) t) (hn : x ≠ "__name__" := by decide) (hdb : (x == ("__debug__" : Str)) = false := by decide)
    (he : starEach (e :: es) X.env = (false, eval e X.env) :: starEach es X.env := by rfl) (hpl : (backTo pos (starEach es X.env)).any (·.1) = false := by rfl) : PE X (.Call (.Name x p) (e :: es) [] pos) (tCB r t) := by
  intro pins s σ H Q I h
  refine wpAny_Call_Name_kw (ld_blt I hg hm hv ?_ hn hdb)
  exact PyProof.Rows.callWith_builtin1 (thn (ha pos pins s σ H _ I h) fun us s1 ⟨vs, H1, I1, r1, q1⟩ => hc pins s1 σ H1 vs us Q I1 r1 q1) he hpl
/-- T(e, ..), T a built-in type -/
theorem pe_callTy (hc : CallR X (.type T) r) (hg : Gl X x) (hm : X.mg x = none) (hv : bootBuiltins x = some (.type T)) (ha : PA X (e :: es) t) (hn : x ≠ "__name__" := by decide) (hdb : (x == ("__debug__" : Str)) = false := by decide)
    (he : starEach (e :: es) X.env = (false, eval e X.env) :: starEach es X.env := by rfl) (hpl : (backTo pos (starEach es X.env)).any (·.1) = false := by rfl) : PE X (.Call (.Name x p) (e :: es) [] pos) (tCB r t) := by
  intro pins s σ H Q I h
  refine wpAny_Call_Name_kw (ld_blt I hg hm hv ?_ hn hdb)
  exact PyProof.Rows.callWith_type1 (thn (ha pos pins s σ H _ I h) fun us s1 ⟨vs, H1, I1, r1, q1⟩ => hc pins s1 σ H1 vs us Q I1 r1 q1) he hpl
end
end L2

namespace HT
open PySem PyProof.Rows

section
open PySem.SeqAt
open PySem.AutoSeq1 (wpAny_loadPart')
open PySem.MeetsSeq PySem.MeetsSeq2 PySem.MeetsSeq3

end

section
variable {prog : Program} {w : World} {A : Around} {E : Value → Shared → Prop} {s : Shared}

/-- t + u, t not empty -/
theorem cat_tup {t b : Addr} {vs ws : List Value} {Q : Value → Shared → Prop} (ht : IsTup s.heap t vs.toArray) (hb : IsTup s.heap b ws.toArray) (hv : vs ≠ [])
    (h1 : ws = [] → Q (.ref t) s) (h2 : ws ≠ [] → Q (.ref s.heap.objs.size) { s with heap := s.heap.push { cls := .type "tuple", data := .seq (vs ++ ws).toArray } })
    (hsz : vs.length + ws.length ≤ sizeLine) : wpAny (model prog w) A (binaryOp .Add (.ref t) (.ref b)) Q E s := by
  obtain ⟨⟨cls, dd, data, sl⟩, ho, hc, n, hd⟩ := id ht
  obtain ⟨⟨cls2, dd2, data2, sl2⟩, ho2, hc2, n2, hd2⟩ := id hb
  simp only at hc hd hc2 hd2
  subst hc hd hc2 hd2
  have e : vs.toArray ++ ws.toArray = (vs ++ ws).toArray := by simp
  by_cases hw : ws = []
  · exact concat_meets ⟨_, ho, rfl⟩ ⟨_, ho2, rfl⟩ noFill_tuple_add seq_tuple_add PySem.F.slot_tuple_add PySem.F.entry_tuple_add (PySem.F.args_tuple_add_2 _ _)
      (tuple_addW1 t b vs.toArray ws.toArray n n2 dd dd2 sl sl2 (by simpa using hv) (by simp [hw])) ⟨ho, ho2, h1 hw⟩
  · refine concat_meets ⟨_, ho, rfl⟩ ⟨_, ho2, rfl⟩ noFill_tuple_add seq_tuple_add PySem.F.slot_tuple_add PySem.F.entry_tuple_add (PySem.F.args_tuple_add_2 _ _)
      (tuple_addW2 t b vs.toArray ws.toArray n n2 dd dd2 sl sl2 (by simpa using hv) (by simpa using hw) (by rw [List.size_toArray, List.size_toArray]; exact hsz)) ⟨ho, ho2, ?_⟩
    rw [e]
    exact h2 hw

/-! ### t[a:b], not the whole -/
/-- a slice's bound as a place among n (d where it is left out) -/
def sIx (n d : Nat) : Option Int → Nat
  | none => d
  | some v => if v < 0 then (v + (n : Int)).toNat else min v.toNat n
theorem sIx_none (n d : Nat) : sIx n d none = d := rfl
theorem sIx_nat (n d k : Nat) : sIx n d (some (k : Int)) = min k n := by
  show (if (k : Int) < 0 then ((k : Int) + (n : Int)).toNat else min (k : Int).toNat n) = min k n
  rw [if_neg (by omega), Int.toNat_natCast]
theorem sIx_le (n d : Nat) (hd : d ≤ n) (o : Option Int) : sIx n d o ≤ n := by
  cases o with
  | none => exact hd
  | some v =>
    show (if v < 0 then (v + (n : Int)).toNat else min v.toNat n) ≤ n
    by_cases hv : v < 0
    · rw [if_pos hv]; omega
    · rw [if_neg hv]; exact Nat.min_le_right _ _
theorem clip_eq (v : Int) (n d : Nat) : (if v < 0 then max (v + (n : Int)) 0 else min v (n : Int)) = ((sIx n d (some v) : Nat) : Int) := by
  show (if v < 0 then max (v + (n : Int)) 0 else min v (n : Int)) = (((if v < 0 then (v + (n : Int)).toNat else min v.toNat n) : Nat) : Int)
  by_cases hv : v < 0
  · simp only [if_pos hv]; omega
  · simp only [if_neg hv]; omega
theorem adjust_gen (lo hi : Option Int) (n : Nat) : Builtin.Slice.sliceAdjust lo hi 1 (n : Int) = (((sIx n 0 lo : Nat) : Int), ((sIx n n hi : Nat) : Int)) := by
  have h1 : ¬ ((1 : Int) < 0) := by omega
  unfold Builtin.Slice.sliceAdjust
  simp only [h1, if_false]
  refine Prod.ext ?_ ?_
  · cases lo with
    | none => rfl
    | some v => exact clip_eq v n 0
  · cases hi with
    | none => rfl
    | some v => exact clip_eq v n n
theorem places_gen (i j : Nat) : Builtin.Slice.slicePlaces (i : Int) (j : Int) 1 = j - i := by
  unfold Builtin.Slice.slicePlaces
  have h1 : (1 : Int) > 0 := by omega
  simp only [h1, if_true, Int.ediv_one]
  split <;> omega
theorem slicePart_ {v : Value} {o : Option Int} {Q : Option Int → Shared → Prop} (p : IsPart v o) (h : Q o s) : wpAny (model prog w) A (Builtin.Slice.slicePartIndex v) Q E s := by
  cases p with
  | none => exact slicePart_none h
  | int i t => exact slicePart_int h
theorem sliceApplied_gen {sl : Addr} {vl vu : Value} {lo hi : Option Int} {n : Nat} {Q : Int × Int × Nat → Shared → Prop} (hs : s.heap.IsSliceOf sl vl vu .none) (pl : IsPart vl lo) (pu : IsPart vu hi)
    (h : Q (((sIx n 0 lo : Nat) : Int), 1, sIx n n hi - sIx n 0 lo) s) : wpAny (model prog w) A (Builtin.Slice.sliceApplied (.ref sl) (pure (n : Int))) Q E s := by
  obtain ⟨os, hos, hcs, hds⟩ := id hs
  unfold Builtin.Slice.sliceApplied Builtin.Slice.sliceFields
  refine wpAny_bind (wpAny_bind (wpAny_field hos hds (x := vl) rfl (wpAny_bind (wpAny_field hos hds (x := vu) rfl (wpAny_bind (wpAny_field hos hds (x := .none) rfl (wpAny_pure ?_)))))))
  refine wpAny_bind (slicePart_none ?_)
  show wpAny _ _ (if ((1 : Int) == 0) = true then _ else _) _ _ s
  rw [if_neg (by decide)]
  refine wpAny_bind (slicePart_ pl (wpAny_bind (slicePart_ pu (wpAny_bind (wpAny_pure ?_)))))
  show wpAny _ _ (match Builtin.Slice.sliceAdjust lo hi 1 (n : Int) with | (lo, hi) => pure (lo, (1 : Int), Builtin.Slice.slicePlaces lo hi 1)) _ _ s
  rw [adjust_gen lo hi n]
  show wpAny _ _ (pure (((sIx n 0 lo : Nat) : Int), (1 : Int), Builtin.Slice.slicePlaces ((sIx n 0 lo : Nat) : Int) ((sIx n n hi : Nat) : Int) 1)) _ _ s
  rw [places_gen]
  exact wpAny_pure h
theorem pick_gen (xs : Array Value) (i k : Nat) : ((List.range k).filterMap fun (m : Nat) => xs[((i : Int) + (m : Int) * 1).toNat]?).toArray = ((xs.toList.drop i).take k).toArray := by
  have e : (fun (m : Nat) => xs[((i : Int) + (m : Int) * 1).toNat]?) = fun m => xs[i + m]? := by
    funext m
    have : ((i : Int) + (m : Int) * 1).toNat = i + m := by omega
    rw [this]
  rw [e]
  have := pick_run xs i k
  rw [List.filterMap_map] at this
  have e2 : ((fun x => xs[x]?) ∘ fun x => i + x) = fun m => xs[i + m]? := rfl
  rw [e2] at this
  rw [this]

theorem getItem_tuple_cut {t sl : Addr} {items : Array Value} {vl vu : Value} {lo hi : Option Int} {Q : Value → Shared → Prop} (ht : IsTup s.heap t items) (hs : s.heap.IsSliceOf sl vl vu .none) (pl : IsPart vl lo) (pu : IsPart vu hi)
    (hw : ¬ (sIx items.size 0 lo = 0 ∧ sIx items.size items.size hi = items.size))
    (h : Q (.ref s.heap.objs.size) { s with heap := s.heap.push { cls := .type "tuple", data := .seq ((items.toList.drop (sIx items.size 0 lo)).take (sIx items.size items.size hi - sIx items.size 0 lo)).toArray } })
    (hsz : items.size ≤ sizeLine) : wpAny (model prog w) A (getItem (.ref t) (.ref sl)) Q E s := by
  have htake : sizeOk (.seq ((items.toList.drop (sIx items.size 0 lo)).take (sIx items.size items.size hi - sIx items.size 0 lo)).toArray) := by
    show ((items.toList.drop (sIx items.size 0 lo)).take (sIx items.size items.size hi - sIx items.size 0 lo)).toArray.size ≤ sizeLine
    rw [List.size_toArray, List.length_take, List.length_drop, Array.length_toList]
    omega
  have hj : sIx items.size items.size hi ≤ items.size := sIx_le _ _ (Nat.le_refl _) hi
  obtain ⟨os, hos, hcs, hds⟩ := id hs
  have hTs : s.TypeIs (.ref sl) "slice" := ⟨os, hos, hcs⟩
  unfold getItem
  try with_reducible refine wpAny_holding ?_
  first | refine wpAny_bind (wpAny_pure ?_) | skip
  refine wpAny_bind (wpAny_sequenceKey ht.typeIs (by decide) ?_)
  refine wpAny_bind (wpAny_callSpecial?_slot (name := Str.ofString "__getitem__") ht.typeIs PyProof.Rows.slot_tuple_getitem
    (wpAny_call_entry PyProof.Rows.slot_tuple_getitem ht.typeIs entry_tuple_getitem ?_ (args_tuple_getitem _ _)))
  show wpAny _ _ (Builtin.Tuple.tupleItemsOf (.ref t) >>= _) _ _ s
  refine wpAny_bind (tupleItemsOf_ ht ?_)
  refine wpAny_bind (wpAny_typeOf hTs ?_)
  rw [if_pos (by decide)]
  refine wpAny_bind (sliceApplied_gen hs pl pu ?_)
  have hno : ¬ ((((sIx items.size 0 lo : Nat) : Int) == 0 && (1 : Int) == 1 && (sIx items.size items.size hi - sIx items.size 0 lo) == items.size) = true) := by
    intro q
    rw [Bool.and_eq_true, Bool.and_eq_true] at q
    have q1 : ((sIx items.size 0 lo : Nat) : Int) = 0 := eq_of_beq q.1.1
    have q2 : sIx items.size items.size hi - sIx items.size 0 lo = items.size := eq_of_beq q.2
    exact hw ⟨by omega, by omega⟩
  show wpAny _ _ (if (((sIx items.size 0 lo : Nat) : Int) == 0 && (1 : Int) == 1 && (sIx items.size items.size hi - sIx items.size 0 lo) == items.size) = true then _ else _) _ _ s
  rw [if_neg hno, pick_gen]
  first
    | exact wpAny_bind (m := Builtin.Tuple.tupleExact _) (wpAny_newObj_type (wpAny_pure ⟨_, rfl, wpAny_pure h⟩) htake)
    | exact wpAny_bind (m := Builtin.Tuple.tupleExact _) (wpAny_newObj_type (wpAny_bind (wpAny_pure (wpAny_pure ⟨_, rfl, wpAny_pure h⟩))) htake)
    | exact wpAny_bind (wpAny_bind (m := Builtin.Tuple.tupleExact _) (wpAny_newObj_type (wpAny_pure (wpAny_pure ⟨_, rfl, wpAny_pure h⟩)) htake))
    | exact wpAny_bind (wpAny_bind (m := Builtin.Tuple.tupleExact _) (wpAny_newObj_type (wpAny_pure ⟨_, rfl, wpAny_pure h⟩) htake))
end
end HT

namespace L2
open PySem PySem.Spec PyProof.Rows

/-! ### the parts of a slice -/
abbrev TO := St → Hp → (Option Int → Hp → Prop) → Prop
/-- a slice's part (left out, or an int) -/
def PO (X : Cx) (e : Option Expr) (t : TO) : Prop :=
  ∀ (pins : List (Addr × Obj)) (s : Shared) (σ : St) (H : Hp) (Q : Option Int → Hp → Prop), Inv X pins σ H s → t σ H Q →
    wpAny (model X.prog X.w) X.A (evalPart e X.env) (fun u s' => ∃ o H', Inv X pins σ H' s' ∧ IsPart u o ∧ Q o H') X.xe s
def tNoPart : TO := fun _ H Q => Q none H
def tPart (t : TE) : TO := fun σ H Q => t σ H fun x H1 => ∃ i, x = .int i ∧ Q (some i) H1

section
variable {X : Cx} {e : Expr} {te : TE} {lo hi : Option Expr} {tl th : TO} {pos p2 : Pos}

theorem po_none : PO X none tNoPart := by
  intro pins s σ H Q I h
  rw [evalPart_none]
  exact wpAny_pure ⟨none, H, I, .none, h⟩
theorem po_some (h : PE X e te) : PO X (some e) (tPart te) := by
  intro pins s σ H Q I hw
  rw [evalPart_some]
  refine thn (h pins s σ H _ I hw) fun u s1 ⟨x, H1, I1, r1, q1⟩ => ?_
  obtain ⟨i, rfl, q⟩ := q1
  obtain ⟨t, rfl⟩ := r1
  exact ⟨some i, H1, I1, .int i t, q⟩

/-- what a slice of a value is, by values: the slice object stands at sl -/
def SlR (X : Cx) (r : V → Option Int → Option Int → Hp → VK → Prop) : Prop :=
  ∀ (pins : List (Addr × Obj)) (s : Shared) (σ : St) (H : Hp) (x : V) (v vl vu : Value) (lo hi : Option Int) (sl : Addr) (Q : VK), Inv X pins σ H s → RelV x v → s.heap.IsSliceOf sl vl vu .none → IsPart vl lo → IsPart vu hi → r x lo hi H Q →
    ∃ T id, typeLookup (.type T) "__getitem__" = pure (some (.builtin id)) ∧ s.TypeIs v T ∧ wpAny (model X.prog X.w) X.A (getItem v (.ref sl)) (EP X pins σ Q) X.xe s
def tSl (r : V → Option Int → Option Int → Hp → VK → Prop) (te : TE) (tl th : TO) : TE := fun σ H Q => te σ H fun x H1 => tl σ H1 fun l H2 => th σ H2 fun u H3 => r x l u H3 Q
/-- a[lo:hi], any a -/
theorem pe_slice {r : V → Option Int → Option Int → Hp → VK → Prop} (hr : SlR X r) (he : PE X e te) (hl : PO X lo tl) (hu : PO X hi th) : PE X (.Subscript e (.Slice lo hi none p2) pos) (tSl r te tl th) := by
  intro pins s σ H Q I h
  refine Subscript_ (thn (he pins s σ H _ I h) fun v s1 ⟨x, H1, I1, r1, q1⟩ => ?_)
  refine wpAny_Slice (thn (hl pins s1 σ H1 _ I1 q1) fun vl s2 ⟨l, H2, I2, pl, q2⟩ => thn (hu pins s2 σ H2 _ I2 q2) fun vu s3 ⟨u, H3, I3, pu, q3⟩ => ?_)
  rw [evalPart_none]
  refine wpAny_pure ?_
  have I4 : Inv X pins σ H3 { s3 with heap := s3.heap.push { cls := .type "slice", data := .fields #[vl, vu, .none] } } := I3.kept (t' := s3.toks) fun b ob q => Heap.get?_push_of_some _ q
  obtain ⟨T, id, hT, ht, hg⟩ := hr pins { s3 with heap := s3.heap.push { cls := .type "slice", data := .fields #[vl, vu, .none] } } σ H3 x v vl vu l u s3.heap.objs.size Q I4 r1 (Heap.IsSliceOf.new ..) pl pu q3
  show wpAny (model X.prog X.w) X.A (subscriptTail e (.Slice lo hi none p2) v (.ref s3.heap.objs.size)) (EP X pins σ Q) X.xe { s3 with heap := s3.heap.push { cls := .type "slice", data := .fields #[vl, vu, .none] } }
  exact tail_any (ops := [.ref s3.heap.objs.size, v]) ht hT hg (by with_unfolding_all rfl)

/-- the items of xs[lo:hi] -/
def cutV (xs : List V) (lo hi : Option Int) : List V := (xs.drop (HT.sIx xs.length 0 lo)).take (HT.sIx xs.length xs.length hi - HT.sIx xs.length 0 lo)
theorem cutV_length (xs : List V) (lo hi : Option Int) : (cutV xs lo hi).length ≤ xs.length := by
  unfold cutV
  rw [List.length_take, List.length_drop]
  omega
/-- t[lo:hi], not the whole of it (the whole would be t itself) -/
def rSlT (K : PySem.W.Frag) : V → Option Int → Option Int → Hp → VK → Prop := fun x lo hi H Q => ∃ a xs, x = .ref a ∧ SqT K H a xs ∧
  ¬ (HT.sIx xs.length 0 lo = 0 ∧ HT.sIx xs.length xs.length hi = xs.length) ∧ ∀ p, H p = none → Q (.ref p) (upd H p (.tup (cutV xs lo hi)))
theorem sl_tup : SlR X (rSlT X.K) := by
  intro pins s σ H x v vl vu lo hi sl Q I rx hs pl pu h
  obtain ⟨a, xs, rfl, hx, hw, q⟩ := h
  cases rx
  obtain ⟨its, r, ht, hz⟩ := I.tuple hx
  have hlen : its.toArray.size = xs.length := by rw [List.size_toArray]; exact r.length.symm
  refine ⟨"tuple", _, PyProof.Rows.slot_tuple_getitem.lookup, ht.typeIs, ?_⟩
  refine HT.getItem_tuple_cut ht hs pl pu (by rw [hlen]; exact hw) ?_ (by rw [hlen]; exact hz)
  rw [hlen]
  refine ⟨.ref s.heap.objs.size, _, I.laid (t' := s.toks) (o := .tup (cutV xs lo hi)) (fun b ob q => Heap.get?_push_of_some _ q) (Nat.le_refl _) ?_, rfl, q _ (I.hok.fresh (Nat.le_refl _))⟩
  exact ⟨Nat.le_trans (cutV_length xs lo hi) hz, _, (r.drop (HT.sIx xs.length 0 lo)).take (HT.sIx xs.length xs.length hi - HT.sIx xs.length 0 lo), IsTup.new _ _⟩

/-! ### t < u, t + u -/
/-- t + u, t not empty: u empty gives t itself -/
def rCatT (K : PySem.W.Frag) : R2 := fun x y H Q => ∃ a b xs ys, x = .ref a ∧ y = .ref b ∧ SqT K H a xs ∧ SqT K H b ys ∧ xs ≠ [] ∧ xs.length + ys.length ≤ sizeLine ∧
  (ys = [] → Q (.ref a) H) ∧ (ys ≠ [] → ∀ p, H p = none → Q (.ref p) (upd H p (.tup (xs ++ ys))))
theorem Vals.nil_iff {xs : List V} {us : List Value} (r : Vals xs us) : us = [] ↔ xs = [] := by
  cases r with
  | nil => simp
  | cons _ _ => simp
theorem op_catT : OpR X (binaryOp .Add) (rCatT X.K) := by
  intro pins s σ H x y v u Q I rx ry h
  obtain ⟨a, b, xs, ys, rfl, rfl, ha, hb, hx, hz, q1, q2⟩ := h
  cases rx
  cases ry
  obtain ⟨its, r1, p1, _⟩ := I.tuple ha
  obtain ⟨its2, r2, p2, _⟩ := I.tuple hb
  refine HT.cat_tup p1 p2 (fun z => hx (r1.nil_iff.mp z)) (fun z => ⟨.ref a, H, I, rfl, q1 (r2.nil_iff.mp z)⟩) (fun z => ?_) (by rw [← r1.length, ← r2.length]; exact hz)
  refine ⟨.ref s.heap.objs.size, _, I.laid (t' := s.toks) (o := .tup (xs ++ ys)) (fun b ob q => Heap.get?_push_of_some _ q) (Nat.le_refl _) ?_, rfl, q2 (fun w => z (r2.nil_iff.mpr w)) _ (I.hok.fresh (Nat.le_refl _))⟩
  exact ⟨by rw [List.length_append]; exact hz, _, r1.append r2, IsTup.new _ _⟩
end
end L2

namespace L2
open PySem PySem.Spec PyProof.Rows

/-! ### places -/
/-- the place that an index of any sign means -/
def ixN (n : Nat) (i : Int) : Option Nat := if 0 ≤ i then (if i < n then some i.toNat else none) else if -(n : Int) ≤ i then some (i + n).toNat else none
def atI {α : Type} (xs : List α) (i : Int) : Option α := (ixN xs.length i).bind fun j => xs[j]?
theorem ixN_seq {n : Nat} {i : Int} {j : Nat} (h : ixN n i = some j) : seqIndex? i n = some j ∧ j < n ∧ -(n : Int) ≤ i ∧ i < n := by
  unfold ixN at h
  by_cases h0 : 0 ≤ i
  · rw [if_pos h0] at h
    by_cases h1 : i < n
    · rw [if_pos h1] at h
      have e : i.toNat = j := Option.some.inj h
      exact ⟨by rw [seqIndex_of h0 h1, e], by omega, by omega, h1⟩
    · rw [if_neg h1] at h; cases h
  · rw [if_neg h0] at h
    by_cases h1 : -(n : Int) ≤ i
    · rw [if_pos h1] at h
      have e : (i + n).toNat = j := Option.some.inj h
      exact ⟨by rw [seqIndex_neg (by omega) h1, e], by omega, h1, by omega⟩
    · rw [if_neg h1] at h; cases h
theorem atI_get {α : Type} {xs : List α} {i : Int} {v : α} (h : atI xs i = some v) : ∃ j, seqIndex? i xs.length = some j ∧ xs[j]? = some v ∧ j < xs.length ∧ -(xs.length : Int) ≤ i ∧ i < xs.length := by
  unfold atI at h
  cases e : ixN xs.length i with
  | none => rw [e] at h; cases h
  | some j =>
    rw [e] at h
    obtain ⟨h1, h2, h3, h4⟩ := ixN_seq e
    exact ⟨j, h1, h, h2, h3, h4⟩
theorem atI_nat {α : Type} {xs : List α} {j : Nat} {v : α} (h : xs[j]? = some v) : atI xs (j : Int) = some v := by
  have hj : j < xs.length := (List.getElem?_eq_some_iff.mp h).1
  have e : ixN xs.length (j : Int) = some j := by
    unfold ixN
    rw [if_pos (by omega), if_pos (by omega)]; simp
  unfold atI; rw [e]; exact h
/-! ### what may be subscripted -/
/-- what stands as an index of a plain subscript -/
def PlainIx (b : Expr) : Prop := ∀ o i, subscripted b false o i = operate [o, i] (getItem o i)
/-- a subscript by values -/
def IxR (X : Cx) (r : R2) : Prop :=
  ∀ (value slice : Expr) (pins : List (Addr × Obj)) (s : Shared) (σ : St) (H : Hp) (x y : V) (v u : Value) (Q : VK), Inv X pins σ H s → RelV x v → RelV y u → r x y H Q →
    subscripted slice false v u = operate [v, u] (getItem v u) → wpAny (model X.prog X.w) X.A (subscriptTail value slice v u) (EP X pins σ Q) X.xe s
/-- a call of a builtin's method by values: the receiver, the arguments -/
def MtR (X : Cx) (id : String) (r : V → List V → Hp → VK → Prop) : Prop :=
  ∀ (pins : List (Addr × Obj)) (s : Shared) (σ : St) (H : Hp) (x : V) (xs : List V) (v : Value) (us : List Value) (Q : VK), Inv X pins σ H s → RelV x v → Vals xs us → r x xs H Q →
    wpAny (model X.prog X.w) X.A (call (.builtin id) (v :: us)) (EP X pins σ Q) X.xe s
section
variable {X : Cx} {a b : Expr} {ta tb : TE} {pos : Pos}
/-- a[b] -/
theorem pe_ix {r : R2} (hr : IxR X r) (ha : PE X a ta) (hb : PE X b tb) (hs : PlainIx b) : PE X (.Subscript a b pos) (tOp r ta tb) := by
  intro pins s σ H Q I h
  exact Subscript_ (binT ha hb I h fun v u s2 x y H2 I2 rx ry q => hr a b pins s2 σ H2 x y v u Q I2 rx ry q (hs _ _))

def rIxL (K : PySem.W.Frag) : R2 := fun x y H Q => ∃ p xs i v, x = .ref p ∧ y = .int i ∧ SqL K H p xs ∧ atI xs i = some v ∧ Q v H
def rIxT (K : PySem.W.Frag) : R2 := fun x y H Q => ∃ p xs i v, x = .ref p ∧ y = .int i ∧ SqT K H p xs ∧ atI xs i = some v ∧ Q v H
theorem ix_list : IxR X (rIxL X.K) := by
  intro value slice pins s σ H x y v u Q I rx ry h hs
  obtain ⟨p, xs, i, z, rfl, rfl, hq, he, q⟩ := h
  cases rx
  obtain ⟨t, rfl⟩ := ry
  obtain ⟨its, r, pl, hz⟩ := I.list hq
  obtain ⟨j, h1, h2, h3, h4, h5⟩ := atI_get he
  obtain ⟨w, ew, rw'⟩ := r.get h2
  have hl := r.length
  have hn := line63
  have fin : EP X pins σ Q w s := ⟨z, H, I, rw', q⟩
  by_cases h0 : 0 ≤ i
  · have hj : i.toNat = j := by
      rw [seqIndex_of h0 h5] at h1
      exact Option.some.inj h1
    exact item_listR pl.isList h0 (by omega) (by rw [hj]; simpa using ew) fin hs
  · have hj : (i + (its.toArray.size : Int)).toNat = j := by
      rw [seqIndex_neg (by omega) h4] at h1
      rw [List.size_toArray, ← hl]
      exact Option.some.inj h1
    exact subscriptTail_builtinR (x := w) pl.isList.typeIs slot_list_getitem.lookup
      (wpAny_getItem_list_neg (Q := fun r s' => r = w ∧ EP X pins σ Q r s') pl.isList (by omega) (by rw [List.size_toArray] <;> omega) (by omega) (by rw [hj]; simpa using ew) ⟨rfl, fin⟩) hs
theorem ix_tup : IxR X (rIxT X.K) := by
  intro value slice pins s σ H x y v u Q I rx ry h hs
  obtain ⟨p, xs, i, z, rfl, rfl, hq, he, q⟩ := h
  cases rx
  obtain ⟨t, rfl⟩ := ry
  obtain ⟨its, r, pl, hz⟩ := I.tuple hq
  obtain ⟨j, h1, h2, h3, h4, h5⟩ := atI_get he
  obtain ⟨w, ew, rw'⟩ := r.get h2
  have hl := r.length
  have hn := line63
  have fin : EP X pins σ Q w s := ⟨z, H, I, rw', q⟩
  exact subscriptTail_builtinR (x := w) pl.typeIs slot_tuple_getitem.lookup
    (getItem_tuple (j := j) (Q := fun r s' => r = w ∧ EP X pins σ Q r s') pl (by omega) (by omega) (by rw [List.size_toArray, ← hl]; exact h1) (by simpa using ew) ⟨rfl, fin⟩) hs
/-! ### xs[i] = v, any sign -/
/-- the list's object behind a store -/
theorem mapSeq_set (its : List Value) (n j : Nat) (u : Value) : Obj.mapSeq (·.setIfInBounds j u) { cls := .type "list", data := .seq its.toArray n } = { cls := .type "list", data := .seq (its.set j u).toArray n } := by
  simp [Obj.mapSeq]
theorem Inv.lst {pins : List (Addr × Obj)} {σ : St} {H : Hp} {s : Shared} {p : Addr} {xs : List V} (I : Inv X pins σ H s) (h : H p = some (.lst xs)) :
    ∃ (its : List Value) (n : Nat), Vals xs its ∧ s.heap.get? p = some { cls := .type "list", data := .seq its.toArray n } ∧ xs.length ≤ sizeLine := by
  obtain ⟨z, its, n, r, e⟩ := I.hok p _ h
  exact ⟨its, n, r, e, z⟩
/-- the list at p is written by an update of its object -/
theorem Inv.lstUpd {pins : List (Addr × Obj)} {σ : St} {H : Hp} {s : Shared} {p : Addr} {xs ys : List V} {its its' : List Value} {n n' : Nat} {f : Obj → Obj} (I : Inv X pins σ H s) (h : H p = some (.lst xs))
    (ho : s.heap.get? p = some { cls := .type "list", data := .seq its.toArray n }) (hf : f { cls := .type "list", data := .seq its.toArray n } = { cls := .type "list", data := .seq its'.toArray n' }) (r : Vals ys its') (hz : ys.length ≤ sizeLine) (t : Nat) :
    Inv X pins σ (upd H p (.lst ys)) { s with heap := s.heap.update p f, toks := t } := by
  have e : (s.heap.update p f).get? p = some { cls := .type "list", data := .seq its'.toArray n' } := by
    rw [Heap.get?_update_self f ho (by rw [hf] <;> rfl), hf]
  refine I.write (x := p) (e := p) (by rw [h]; trivial) (.inl rfl) (fun b u hb q => (Heap.get?_update_other _ _ (Ne.symm hb)).trans q) ⟨_, e⟩ ?_
  exact ⟨hz, its', n', r, e⟩
def rSetL : V → V → V → Hp → (Hp → Prop) → Prop := fun o i v H Q => ∃ p xs k j, o = .ref p ∧ i = .int k ∧ H p = some (.lst xs) ∧ ixN xs.length k = some j ∧ Q (upd H p (.lst (xs.set j v)))
theorem set_list : PSet X rSetL := by
  intro pins s σ H o i v ov iv u Q I ro ri rv h
  obtain ⟨p, xs, k, j, rfl, rfl, hp, hj, q⟩ := h
  cases ro
  obtain ⟨t, rfl⟩ := ri
  obtain ⟨its, n, r, ho, hz⟩ := I.lst hp
  obtain ⟨h1, h2, h3, h4⟩ := ixN_seq hj
  have hl := r.length
  have hn := line63
  have I' : Inv X pins σ (upd H p (.lst (xs.set j v))) { s with heap := s.heap.update p (Obj.mapSeq (·.setIfInBounds j u)) } :=
    I.lstUpd hp ho (mapSeq_set its n j u) (r.set rv j) (by rw [List.length_set]; exact hz) s.toks
  by_cases h0 : 0 ≤ k
  · have hk : k.toNat = j := by
      rw [seqIndex_of h0 h4] at h1
      exact Option.some.inj h1
    exact PySem.W.ki_setAt ho h0 (by omega) (by rw [List.size_toArray, ← hl]; exact h4) (by rw [hk]; exact ⟨_, I', q⟩)
  · have hk : (k + (its.toArray.size : Int)).toNat = j := by
      rw [seqIndex_neg (by omega) h3] at h1
      rw [List.size_toArray, ← hl]
      exact Option.some.inj h1
    exact PySem.W.ki_setBack ho (by omega) (by rw [List.size_toArray, ← hl]; exact h3) (by omega) (by rw [hk]; exact ⟨_, I', q⟩)

/-! ### slices -/
theorem slice_bounds (lo hi : Option Int) (n : Nat) : (sliceBounds lo hi none n).1 = ((HT.sIx n 0 lo : Nat) : Int) ∧ (sliceBounds lo hi none n).2.1 = ((HT.sIx n n hi : Nat) : Int) ∧ (sliceBounds lo hi none n).2.2 = 1 := by
  refine ⟨?_, ?_, rfl⟩
  · cases lo with
    | none => simp [sliceBounds, HT.sIx]
    | some i =>
      simp only [sliceBounds, HT.sIx, Option.getD_none, show (1 : Int) > 0 by decide, if_true]
      by_cases h : i < 0
      · simp only [h, if_true] <;> omega
      · simp only [h, if_false] <;> omega
  · cases hi with
    | none => simp [sliceBounds, HT.sIx]
    | some i =>
      simp only [sliceBounds, HT.sIx, Option.getD_none, show (1 : Int) > 0 by decide, if_true]
      by_cases h : i < 0
      · simp only [h, if_true] <;> omega
      · simp only [h, if_false] <;> omega
theorem slicePick_cut (its : List Value) (lo hi : Option Int) : slicePick its.toArray lo hi none = ((its.drop (HT.sIx its.length 0 lo)).take (HT.sIx its.length its.length hi - HT.sIx its.length 0 lo)).toArray := by
  obtain ⟨h1, h2, h3⟩ := slice_bounds lo hi its.toArray.size
  unfold slicePick
  rw [h1, h2, h3]
  simp only [sliceRange_one, pick_run, List.size_toArray] <;> rfl
/-- xs[lo:hi] of a list: a new list -/
def rSlL (K : PySem.W.Frag) : V → Option Int → Option Int → Hp → VK → Prop := fun x lo hi H Q => ∃ a xs, x = .ref a ∧ SqL K H a xs ∧ ∀ p, H p = none → Q (.ref p) (upd H p (.lst (cutV xs lo hi)))
theorem sl_list : SlR X (rSlL X.K) := by
  intro pins s σ H x v vl vu lo hi sl Q I rx hs pl pu h
  obtain ⟨a, xs, rfl, hx, q⟩ := h
  cases rx
  obtain ⟨its, r, ht, hz⟩ := I.list hx
  have hlen := r.length
  refine ⟨"list", _, slot_list_getitem.lookup, ht.isList.typeIs, ?_⟩
  refine wpAny_getItem_list_slice ht.isList hs pl pu .none (by simp) ?_ (by rw [List.size_toArray] <;> omega)
  rw [slicePick_cut, ← hlen]
  refine ⟨.ref s.heap.objs.size, _, I.laid (t' := s.toks) (o := .lst (cutV xs lo hi)) (fun b ob q => Heap.get?_push_of_some _ q) (Nat.le_refl _) ?_, rfl, q _ (I.hok.fresh (Nat.le_refl _))⟩
  exact ⟨Nat.le_trans (cutV_length xs lo hi) hz, _, 0, (r.drop (HT.sIx xs.length 0 lo)).take (HT.sIx xs.length xs.length hi - HT.sIx xs.length 0 lo), Heap.get?_push_size _ rfl⟩

/-! ### in, not in: flat items -/
/-! ### len, list(x), tuple(x) of any list or tuple that is read -/
theorem call_len_seq : CallR X (.builtin "len") (fun xs H Q => ∃ p ys, xs = [.ref p] ∧ (SqL X.K H p ys ∨ SqT X.K H p ys) ∧ Q (.int ys.length) H) := by
  intro pins s σ H xs us Q I r h
  obtain ⟨p, ys, rfl, hq, q⟩ := h
  obtain ⟨u, rfl, rx⟩ := vals1 r
  cases rx
  have hn := line63
  rcases hq with hq | hq
  · obtain ⟨its, r', pl, hz⟩ := I.list hq
    have hlen := r'.length
    exact Calls.call_len_list pl.isList (by simp only [List.size_toArray] <;> omega) ⟨.int ys.length, H, I.tok _, ⟨s.toks + 1, by rw [List.size_toArray, hlen]⟩, q⟩
  · obtain ⟨its, r', pl, hz⟩ := I.tuple hq
    have hlen := r'.length
    exact len_tuple pl (by simp only [List.size_toArray] <;> omega) ⟨.int ys.length, H, I.tok _, ⟨s.toks + 1, by rw [List.size_toArray, hlen]⟩, q⟩
theorem call_list_of : CallR X (.type "list") (fun xs H Q => ∃ p ys, xs = [.ref p] ∧ (SqL X.K H p ys ∨ SqT X.K H p ys) ∧ ∀ l, H l = none → Q (.ref l) (upd H l (.lst ys))) := by
  intro pins s σ H xs us Q I r h
  obtain ⟨p, ys, rfl, hq, q⟩ := h
  obtain ⟨u, rfl, rx⟩ := vals1 r
  cases rx
  have fin : ∀ (its : List Value), Vals ys its → ys.length ≤ sizeLine → ∀ (h' : Heap) (c' : Nat), (∀ b o', s.heap.get? b = some o' → h'.get? b = some o') →
      h'.get? s.heap.objs.size = some { cls := .type "list", dict := none, data := .seq its.toArray c', slots := #[] } → EP X pins σ Q (.ref s.heap.objs.size) { s with heap := h' } := fun its r' hz h' c' kp e =>
    ⟨.ref s.heap.objs.size, _, I.laid (t' := s.toks) kp (Nat.le_refl _) (show ObjOk X.prog X.w _ h' _ (.lst ys) from ⟨hz, its, c', r', e⟩), rfl, q _ (I.hok.fresh (Nat.le_refl _))⟩
  rcases hq with hq | hq
  · obtain ⟨its, r', pl, hz⟩ := I.list hq
    have hlen := r'.length
    obtain ⟨o, ho, hc, n, hd⟩ := pl.isList
    exact call_list_seq p (.inl rfl) ho hc hd (fun h' c' kp e => fin its r' hz h' c' kp e) (by simp only [List.size_toArray] <;> omega)
  · obtain ⟨its, r', pl, hz⟩ := I.tuple hq
    have hlen := r'.length
    obtain ⟨o, ho, hc, n, hd⟩ := pl
    exact call_list_seq p (.inr rfl) ho hc hd (fun h' c' kp e => fin its r' hz h' c' kp e) (by simp only [List.size_toArray] <;> omega)
/-! ### the call of a builtin's method: o.m(..) -/
/-- the value is of that builtin type -/
def tyV (K : PySem.W.Frag) (T : String) (x : V) (H : Hp) : Prop := match x with
  | .str _ => T = "str"
  | .int _ => T = "int"
  | .ref p => (T = "list" ∧ ∃ xs, SqL K H p xs) ∨ (T = "tuple" ∧ ∃ o, K.lookup p = some o ∧ o.cls = .type "tuple" ∧ o.dict = none) ∨
      (T = "dict" ∧ ((∃ kvs, H p = some (.dK kvs)) ∨ ∃ kvs, H p = some (.dT kvs))) ∨ (T = "set" ∧ ∃ S n, H p = some (.set S n))
  | _ => False
theorem tyV_is {pins : List (Addr × Obj)} {σ : St} {H : Hp} {s : Shared} {T : String} {x : V} {v : Value} (I : Inv X pins σ H s) (r : RelV x v) (ty : tyV X.K T x H) :
    s.TypeIs v T ∧ ∀ a, v = .ref a → ∃ ob, s.heap.get? a = some ob ∧ ob.dict = none := by
  cases x with
  | str z =>
    obtain ⟨t, rfl⟩ := r
    cases (show T = "str" from ty)
    exact ⟨typeIs_str s z t, fun _ e => nomatch e⟩
  | int i =>
    obtain ⟨t, rfl⟩ := r
    cases (show T = "int" from ty)
    exact ⟨typeIs_int s i t, fun _ e => nomatch e⟩
  | ref p =>
    cases r
    rcases ty with ⟨rfl, xs, hq⟩ | ⟨rfl, o, hk, hc, hd⟩ | ⟨rfl, hk⟩ | ⟨rfl, S, n, hk⟩
    · obtain ⟨its, _, pl, _⟩ := I.list hq
      refine ⟨pl.isList.typeIs, fun a e => ?_⟩
      cases e
      obtain ⟨o, n, e, c, hd, _⟩ := pl
      exact ⟨o, e, hd⟩
    · refine ⟨⟨o, I.kIn p o hk, hc⟩, fun a e => ?_⟩
      cases e
      exact ⟨o, I.kIn _ o hk, hd⟩
    · have z : ∃ o, s.heap.get? p = some o ∧ o.ExactDict := by
        rcases hk with ⟨kvs, hk⟩ | ⟨kvs, hk⟩
        · obtain ⟨_, _, _, _, o, _, _, e, ex, _⟩ := I.hok p _ hk
          exact ⟨o, e, ex⟩
        · obtain ⟨_, _, _, _, o, _, _, e, ex, _⟩ := I.hok p _ hk
          exact ⟨o, e, ex⟩
      obtain ⟨o, e, ex⟩ := z
      refine ⟨⟨o, e, ex.1⟩, fun a e2 => ?_⟩
      cases e2
      exact ⟨o, e, ex.2.1⟩
    · obtain ⟨o, _, _, _, e, ex, _⟩ := I.hok p _ hk
      refine ⟨⟨o, e, ex.1⟩, fun a e2 => ?_⟩
      cases e2
      exact ⟨o, e, ex.2.1⟩
  | _ => exact False.elim ty
def tBM (K : PySem.W.Frag) (T : String) (r : V → List V → Hp → VK → Prop) (to : TE) (t : TA) : TE := fun σ H Q => to σ H fun x H1 => tyV K T x H1 ∧ t σ H1 fun xs H2 => r x xs H2 Q
variable {o e : Expr} {es : List Expr} {to : TE} {t : TA} {name : Str} {apos cpos : Pos} {T id : String} {r : V → List V → Hp → VK → Prop}
theorem pe_bm (pa : PlainAttrs T) (slot : Slot T name id) (hty : typeOf (.builtin id) = pure (.type "method_descriptor")) (hm : MtR X id r) (ho : PE X o to) (ha : PA X (e :: es) t)
    (hbase : attributeBase o name X.env (eval o X.env) = eval o X.env := by rfl)
    (hfew : ((backTo cpos (starEach (e :: es) X.env)).all (fun x => !x.1) && (backToKw cpos (keywordEach [] X.env)).all (fun x => x.1.isSome)
      && decide ((e :: es).length + ([] : List Keyword).length + (if ([] : List Keyword).isEmpty then 0 else 1) < 30)) = true := by rfl)
    (hline : (apos.endLine == cpos.line) = true := by rfl) (hs : starEach (e :: es) X.env = (false, eval e X.env) :: starEach es X.env := by rfl) (hplain : (backTo cpos (starEach es X.env)).any (·.1) = false := by rfl) :
    PE X (.Call (.Attribute o name apos) (e :: es) [] cpos) (tBM X.K T r to t) := by
  intro pins s σ H Q I h
  refine wpAny_Call_method_late hbase hfew hline rfl (thn (ho pins s σ H _ I h) fun v s1 ⟨x, H1, I1, r1, ty, q1⟩ => ?_)
  obtain ⟨h1, h2⟩ := tyV_is I1 r1 ty
  refine ⟨T, id, pa, slot, hty, h1, h2, ?_⟩
  have hA := ha cpos pins s1 σ H1 _ I1 q1
  rw [hs] at hA ⊢
  refine Calls.callWith_builtin (by show (false || (backTo cpos (starEach es X.env)).any (·.1)) = false; rw [hplain] <;> rfl) (Calls.evalArgs_plain ?_)
  exact thn hA fun us s2 ⟨vs, H2, I2, r2, q2⟩ => hm pins s2 σ H2 x vs v us Q I2 r1 r2 q2
/- xs.append(e), list.index on a module's tuple .. are MtR facts of 06m -/
end
end L2

namespace L2
open PySem PySem.Spec PyProof.Rows

def MtM (X : Cx) (id : String) (r : V → List V → Hp → VK → Prop) : Prop :=
  ∀ (pins : List (Addr × Obj)) (s : Shared) (σ : St) (H : Hp) (x : V) (xs : List V) (v : Value) (us : List Value) (Q : VK), Inv X pins σ H s → RelV x v → Vals xs us → r x xs H Q →
    wpAny (model X.prog X.w) X.A (call (.builtin id) (v :: us)) (EP X pins σ Q) X.xe s

/-! ### lists of values -/
theorem Vals.one {x : V} {us : List Value} (h : Vals [x] us) : ∃ u, us = [u] ∧ RelV x u := by
  cases h with
  | cons r t => cases t; exact ⟨_, rfl, r⟩
theorem Vals.rep {xs : List V} {us : List Value} (h : Vals xs us) : ∀ k : Nat, Vals (List.replicate k xs).flatten (List.replicate k us).flatten
  | 0 => .nil
  | k + 1 => by
    rw [List.replicate_succ, List.replicate_succ, List.flatten_cons, List.flatten_cons]
    exact Vals.append h (Vals.rep h k)
theorem foldl_rep (its : List Value) : ∀ (k : Nat) (acc : List Value),
    List.foldl (fun x1 x2 => x1 ++ x2) acc.toArray (List.replicate k its.toArray) = (acc ++ (List.replicate k its).flatten).toArray
  | 0, acc => by simp
  | k + 1, acc => by
    have e : acc.toArray ++ its.toArray = (acc ++ its).toArray := by simp
    have e2 : (acc ++ its) ++ (List.replicate k its).flatten = acc ++ (List.replicate (k + 1) its).flatten := by
      rw [List.replicate_succ, List.flatten_cons, List.append_assoc]
    rw [← e2, ← foldl_rep its k (acc ++ its), ← e, List.replicate_succ, List.foldl_cons]

section
variable {X : Cx} {pins : List (Addr × Obj)} {σ : St} {H : Hp} {s : Shared} {l b : Addr} {xs ys zs : List V}

/-! ### the two steps: a tracked list is rewritten, a new list is laid -/
theorem Inv.lset {its its' : List Value} {n : Nat} {f : Array Value → Array Value} {t' : Nat} (I : Inv X pins σ H s) (hH : H l = some (.lst xs))
    (e : s.heap.get? l = some { cls := .type "list", data := .seq its.toArray n }) (hf : f its.toArray = its'.toArray) (hv : Vals ys its') (hz : ys.length ≤ sizeLine) :
    Inv X pins σ (upd H l (.lst ys)) { s with heap := s.heap.update l (Obj.mapSeq f), toks := t' } := by
  have q := PySem.IsL.update e f
  rw [hf] at q
  refine I.write (x := l) (e := l) (by rw [hH]; exact trivial) (.inl rfl) (fun b' u hb hu => (Heap.get?_update_other s.heap (Obj.mapSeq f) (Ne.symm hb)).trans hu) ⟨_, q⟩ ?_
  exact ⟨hz, its', _, hv, q⟩
theorem Inv.lnew {its : List Value} {t' : Nat} (I : Inv X pins σ H s) (hv : Vals ys its) (hz : ys.length ≤ sizeLine) :
    Inv X pins σ (upd H s.heap.objs.size (.lst ys)) { s with heap := s.heap.push { cls := .type "list", data := .seq its.toArray }, toks := t' } :=
  I.laid (fun _ _ q => Heap.get?_push_of_some _ q) (Nat.le_refl _) ⟨hz, its, 0, hv, Heap.get?_push_size _ rfl⟩
theorem Inv.fresh (I : Inv X pins σ H s) : H s.heap.objs.size = none := I.hok.fresh (Nat.le_refl _)
theorem Inv.lstM (I : Inv X pins σ H s) (hH : H l = some (.lst xs)) : xs.length ≤ sizeLine ∧ ∃ (its : List Value) (n : Nat), Vals xs its ∧ xs.length = its.length ∧ s.heap.get? l = some { cls := .type "list", data := .seq its.toArray n } := by
  obtain ⟨z, its, n, r, e⟩ := I.hok l _ hH
  exact ⟨z, its, n, r, r.length, e⟩

theorem notLongL {n : Nat} (h : n ≤ sizeLine) : Builtin.List.listTooLong n = false := by
  unfold Builtin.List.listTooLong
  exact decide_eq_false (by omega)
end

section
variable {X : Cx}

/-! ### methods -/
def rAppend : V → List V → Hp → VK → Prop := fun x vs H Q => ∃ l xs y, x = .ref l ∧ vs = [y] ∧ H l = some (.lst xs) ∧ xs.length < sizeLine ∧ Q .non (upd H l (.lst (xs ++ [y])))
theorem mt_append : MtM X "list.append" rAppend := by
  intro pins s σ H x vs v us Q I rx rv h
  obtain ⟨l, xs, y, rfl, rfl, hH, hz, q⟩ := h
  cases rx
  obtain ⟨u, rfl, ru⟩ := rv.one
  obtain ⟨z, its, n, r, hl, e⟩ := I.lstM hH
  refine call_meets F.slot_list_append ⟨_, e, rfl⟩ F.entry_list_append (F.args_list_append_2 _ _) (PySem.list_append l its.toArray n u (by rw [List.size_toArray]; omega)) ⟨e, ?_⟩
  refine ⟨.non, _, I.lset (its' := its ++ [u]) hH e (by simp) (r.append (.cons ru .nil)) ?_, rfl, q⟩
  rw [List.length_append, List.length_singleton]
  omega

def rExtend : V → List V → Hp → VK → Prop := fun x vs H Q => ∃ l b xs zs, x = .ref l ∧ vs = [.ref b] ∧ H l = some (.lst xs) ∧ H b = some (.lst zs) ∧ xs.length + zs.length ≤ sizeLine ∧ Q .non (upd H l (.lst (xs ++ zs)))
theorem mt_extend : MtM X "list.extend" rExtend := by
  intro pins s σ H x vs v us Q I rx rv h
  obtain ⟨l, b, xs, zs, rfl, rfl, hH, hB, hz, q⟩ := h
  cases rx
  obtain ⟨u, rfl, ru⟩ := rv.one
  cases ru
  obtain ⟨z, its, n, r, hl, e⟩ := I.lstM hH
  obtain ⟨z2, its2, n2, r2, hl2, e2⟩ := I.lstM hB
  have hsz : its.toArray.size + its2.toArray.size ≤ sizeLine := by rw [List.size_toArray, List.size_toArray]; omega
  have hlong : ¬ (!its.toArray.isEmpty && Builtin.List.listTooLong (its.toArray.size + its2.toArray.size)) = true := by
    rw [notLongL hsz, Bool.and_false]
    exact Bool.false_ne_true
  refine call_meets F.slot_list_extend ⟨_, e, rfl⟩ F.entry_list_extend (F.args_list_extend_2 _ _)
    (AutoSeq1.list_extend_list_list_0 l its.toArray n b its2.toArray n2 hlong (by rw [List.size_toArray]; omega) (by omega)) ⟨e, e2, ?_⟩
  refine ⟨.non, _, I.lset (its' := its ++ its2) hH e (by simp) (r.append r2) ?_, rfl, q⟩
  rw [List.length_append]
  omega

/-! ### list + list, list += list, list * int -/
/-- a list times an int (a negative one is nothing) -/
def rRep : R2 := fun x y H Q => ∃ l k xs, x = .ref l ∧ y = .int k ∧ H l = some (.lst xs) ∧ -(2 ^ 63) ≤ k ∧ k < 2 ^ 63 ∧ xs.length * k.toNat ≤ sizeLine ∧
  ∀ p, H p = none → Q (.ref p) (upd H p (.lst (List.replicate k.toNat xs).flatten))
theorem len_rep {α : Type} (xs : List α) (k : Nat) : (List.replicate k xs).flatten.length = k * xs.length := by
  induction k with
  | zero => simp
  | succ k ih => rw [List.replicate_succ, List.flatten_cons, List.length_append, ih, Nat.succ_mul, Nat.add_comm]
theorem op_rep : OpR X (binaryOp .Mult) rRep := by
  intro pins s σ H x y v u Q I rx ry h
  obtain ⟨l, k, xs, rfl, rfl, hH, h1, h2, hz, q⟩ := h
  cases rx
  obtain ⟨t, rfl⟩ := ry
  obtain ⟨z, its, n, r, hl, e⟩ := I.lstM hH
  have hlen : its.toArray.size * k.toNat ≤ sizeLine := by rw [List.size_toArray, ← hl]; exact hz
  have hcap : ¬ its.toArray.size * k.toNat > (2 ^ 63 - 1) / 8 := by
    have : (sizeLine : Nat) ≤ (2 ^ 63 - 1) / 8 := by decide
    omega
  have hfit : ¬ (!Builtin.List.listFitsIndex k) = true := by
    rw [fitsIndex_both h1 h2]
    exact Bool.false_ne_true
  have hlong : ¬ Builtin.List.listTooLong (its.toArray.size * k.toNat) = true := by
    rw [notLongL hlen]
    exact Bool.false_ne_true
  have hnew : List.foldl (fun x1 x2 => x1 ++ x2) #[] (List.replicate (if its.toArray.isEmpty = true then 0 else k.toNat) its.toArray) = (List.replicate k.toNat its).flatten.toArray := by
    have f0 : ∀ m : Nat, List.foldl (fun x1 x2 => x1 ++ x2) #[] (List.replicate m its.toArray) = (List.replicate m its).flatten.toArray := fun m => by
      have := foldl_rep its m []
      rw [List.nil_append] at this
      exact this
    rw [f0]
    cases its with
    | nil => simp
    | cons a r' => rw [if_neg (by simp)]
  refine wpAny_binaryOp_repeat_ref (T := "list") (U := "int") (by decide) ⟨_, e, rfl⟩ (fun s' => typeIs_int s' k t) noFill_list_mul F.fills_int_mul F.slot_int_rmul repeat_list F.slot_int_index.lookup
    (call_meets F.slot_int_rmul (typeIs_int s k t) F.entry_int_rmul (F.args_int_rmul_2 _ _) (int___rmul___int_list k t l its.toArray n)
      ⟨e, rfl, ⟨_, e, rfl⟩, call_meets F.slot_list_mul ⟨_, e, rfl⟩ F.entry_list_mul (F.args_list_mul_2 _ _) (AutoListH.list___mul___list_int_3 l its.toArray n k t hfit hcap hlong) ⟨e, ?_⟩⟩)
  rw [hnew]
  exact ⟨.ref _, _, I.lnew (t' := s.toks) (r.rep k.toNat) (by rw [len_rep, Nat.mul_comm]; exact hz), rfl, q _ I.fresh⟩

/-! ### del xs[i] -/
end

/-! ### xs[a:b] = ys -/
section
variable {prog : Program} {w : World} {A : Around} {E : Value → Shared → Prop} {s : Shared}
end

section
variable {X : Cx}
end
end L2

namespace L2
open PySem PySem.Spec PyProof.Rows

/-! ### lists of pairs as tables -/
section
variable {κ : Type} [DecidableEq κ]
def valV (kvs : List (κ × V)) (k : κ) : Option V := (kvs.find? fun kv => decide (kv.1 = k)).map (·.2)
/-- in its place, or at the end -/
def putK (kvs : List (κ × V)) (k : κ) (v : V) : List (κ × V) :=
  if (kvs.any fun kv => decide (kv.1 = k)) = true then kvs.map (fun kv => if kv.1 = k then (kv.1, v) else kv) else kvs ++ [(k, v)]
theorem valV_pos {p : κ × V} {r : List (κ × V)} {k : κ} (e : p.1 = k) : valV (p :: r) k = some p.2 := by simp [valV, List.find?_cons, e]
theorem valV_neg {p : κ × V} {r : List (κ × V)} {k : κ} (e : ¬ p.1 = k) : valV (p :: r) k = valV r k := by simp [valV, List.find?_cons, e]
theorem valV_any (k : κ) : ∀ kvs : List (κ × V), (kvs.any fun kv => decide (kv.1 = k)) = (valV kvs k).isSome
  | [] => rfl
  | p :: r => by
    rw [List.any_cons]
    by_cases e : p.1 = k
    · simp only [valV_pos e, decide_eq_true e, Bool.true_or, Option.isSome_some]
    · rw [valV_neg e, decide_eq_false e, Bool.false_or]; exact valV_any k r
theorem valV_map (k j : κ) (y : V) : ∀ kvs : List (κ × V), valV (kvs.map fun kv => if kv.1 = k then (kv.1, y) else kv) j = (valV kvs j).map fun x => if j = k then y else x
  | [] => rfl
  | p :: r => by
    have ih := valV_map k j y r
    rw [List.map_cons]
    by_cases h : p.1 = k
    · rw [if_pos h]
      by_cases e : p.1 = j
      · rw [valV_pos (p := (p.1, y)) e, valV_pos e, Option.map_some, if_pos (e.symm.trans h)]
      · rw [valV_neg (p := (p.1, y)) e, valV_neg e, ih]
    · rw [if_neg h]
      by_cases e : p.1 = j
      · rw [valV_pos (p := p) e, valV_pos e, Option.map_some, if_neg (fun z => h (e.trans z))]
      · rw [valV_neg (p := p) e, valV_neg e, ih]
theorem valV_snoc (k j : κ) (y : V) : ∀ kvs : List (κ × V), valV kvs k = none → valV (kvs ++ [(k, y)]) j = if j = k then some y else valV kvs j
  | [], _ => by
    by_cases e : k = j
    · rw [if_pos e.symm]; exact valV_pos (p := (k, y)) e
    · rw [if_neg (fun z => e z.symm)]; exact valV_neg (p := (k, y)) e
  | p :: r, hn => by
    rw [List.cons_append]
    have hk : ¬ p.1 = k := fun z => by rw [valV_pos z] at hn; cases hn
    rw [valV_neg hk] at hn
    have ih := valV_snoc k j y r hn
    by_cases e : p.1 = j
    · rw [valV_pos e, valV_pos e, if_neg (fun z => hk (e.trans z))]
    · rw [valV_neg e, valV_neg e, ih]
theorem valV_put (kvs : List (κ × V)) (k j : κ) (y : V) : valV (putK kvs k y) j = if j = k then some y else valV kvs j := by
  unfold putK
  by_cases a : (kvs.any fun kv => decide (kv.1 = k)) = true
  · rw [if_pos a, valV_map]
    rw [valV_any] at a
    by_cases e : j = k
    · obtain ⟨x, hx⟩ := Option.isSome_iff_exists.mp a
      rw [if_pos e, e, hx, Option.map_some, if_pos rfl]
    · rw [if_neg e]
      cases valV kvs j with
      | none => rfl
      | some x => rw [Option.map_some, if_neg e]
  · rw [if_neg a]
    refine valV_snoc k j y kvs ?_
    rw [valV_any] at a
    cases q : valV kvs k with
    | none => rfl
    | some x => rw [q] at a; exact (a rfl).elim
theorem length_putK (kvs : List (κ × V)) (k : κ) (v : V) : (putK kvs k v).length ≤ kvs.length + 1 := by
  unfold putK
  split
  · rw [List.length_map]; omega
  · rw [List.length_append, List.length_cons, List.length_nil]; omega
theorem RelO.isSome_eq {o : Option V} {u : Option Value} (r : RelO o u) : o.isSome = u.isSome := by
  cases o with
  | none => cases u with
    | none => rfl
    | some _ => exact (show False from r).elim
  | some _ => cases u with
    | none => exact (show False from r).elim
    | some _ => rfl
theorem RelO.getD {o : Option V} {u : Option Value} {d : V} {d' : Value} (r : RelO o u) (rd : RelV d d') : RelV (o.getD d) (u.getD d') := by
  cases o with
  | none => cases u with
    | none => exact rd
    | some _ => exact (show False from r).elim
  | some _ => cases u with
    | none => exact (show False from r).elim
    | some _ => exact r

/-- raw tables of the same keys -/
theorem KV.val {kvs : List (κ × V)} {vs : List (κ × Value)} (r : KV kvs vs) (k : κ) : RelO (valV kvs k) (valueAt vs k) := by
  unfold KV at r
  induction r with
  | nil => exact True.intro
  | @cons p q ps qs h t ih =>
    obtain ⟨h1, h2⟩ := h
    by_cases e : p.1 = k
    · have e' : q.1 = k := h1.symm.trans e
      have b : valueAt (q :: qs) k = some q.2 := by simp [valueAt, List.find?_cons, e']
      rw [valV_pos e, b]; exact h2
    · have e' : ¬ q.1 = k := fun z => e (h1.trans z)
      have b : valueAt (q :: qs) k = valueAt qs k := by simp [valueAt, List.find?_cons, e']
      rw [valV_neg e, b]; exact ih
theorem KV.any {kvs : List (κ × V)} {vs : List (κ × Value)} (r : KV kvs vs) (k : κ) : (kvs.any fun kv => decide (kv.1 = k)) = vs.any fun kv => decide (kv.1 = k) := by
  unfold KV at r
  induction r with
  | nil => rfl
  | cons h t ih => rw [List.any_cons, List.any_cons, ih, h.1]
theorem KV.repl {kvs : List (κ × V)} {vs : List (κ × Value)} (r : KV kvs vs) (k : κ) {y : V} {u : Value} (ry : RelV y u) :
    KV (kvs.map fun kv => if kv.1 = k then (kv.1, y) else kv) (vs.map fun kv => if kv.1 = k then (kv.1, u) else kv) := by
  unfold KV at r ⊢
  induction r with
  | nil => exact .nil
  | @cons p q ps qs h t ih =>
    rw [List.map_cons, List.map_cons]
    refine .cons ?_ ih
    obtain ⟨h1, h2⟩ := h
    by_cases e : p.1 = k
    · rw [if_pos e, if_pos (h1.symm.trans e)]; exact ⟨h1, ry⟩
    · rw [if_neg e, if_neg (fun z => e (h1.trans z))]; exact ⟨h1, h2⟩
theorem KV.put {kvs : List (κ × V)} {vs : List (κ × Value)} (r : KV kvs vs) (k : κ) {y : V} {u : Value} (ry : RelV y u) : KV (putK kvs k y) (stored vs k u) := by
  unfold putK stored
  rw [r.any k]
  by_cases e : (vs.any fun kv => decide (kv.1 = k)) = true
  · rw [if_pos e, if_pos e]; exact r.repl k ry
  · rw [if_neg e, if_neg e]; exact Paired.snoc r ⟨rfl, ry⟩
theorem KV.length {kvs : List (κ × V)} {vs : List (κ × Value)} (r : KV kvs vs) : kvs.length = vs.length := Paired.length r
end


/-! ### a tracked dict, its keys ints and texts or tuples of these -/
theorem kV_is {P : Program} {w : World} {k : Key} {u : Value} (r : RelV (kV k) u) : (mixKind P w).is k u = true := by
  cases k with
  | inl i => obtain ⟨t, e⟩ := (show ∃ t, u = Value.int i t from r); subst e; exact mixKind_int P w i t
  | inr x => obtain ⟨t, e⟩ := (show ∃ t, u = Value.str x t from r); subst e; exact mixKind_str P w x t
theorem items_are {P : Program} {w : World} : ∀ {ks : List Key} {us : List Value}, Vals (ks.map kV) us → ItemsAre (mixKind P w) ks us
  | [], _, r => by rw [List.map_nil] at r; cases r; exact .nil
  | k :: ks, _, r => by
    rw [List.map_cons] at r
    cases r with
    | cons h t => exact .cons (kV_is h) (items_are t)

/-- raw entries of a dict with tuple keys -/
abbrev KT (H : Hp) : List (List Key × V) → List (List Key × Addr × Value) → Prop := Paired fun p q => p.1 = q.1 ∧ H q.2.1 = some (.tup (p.1.map kV)) ∧ RelV p.2 q.2.2
theorem KT.val {H : Hp} {kvs : List (List Key × V)} {xs : List (List Key × Addr × Value)} (r : KT H kvs xs) (k : List Key) : RelO (valV kvs k) ((atKey xs k).map (·.2)) := by
  induction r with
  | nil => exact True.intro
  | @cons p q ps qs h t ih =>
    obtain ⟨h1, _, h2⟩ := h
    by_cases e : p.1 = k
    · have e' : q.1 = k := h1.symm.trans e
      have b : atKey (q :: qs) k = some q.2 := by simp [atKey, List.find?_cons, e']
      rw [valV_pos e, b]; exact h2
    · have e' : ¬ q.1 = k := fun z => e (h1.trans z)
      have b : atKey (q :: qs) k = atKey qs k := by simp [atKey, List.find?_cons, e']
      rw [valV_neg e, b]; exact ih
theorem KT.repl {H : Hp} {kvs : List (List Key × V)} {xs : List (List Key × Addr × Value)} (r : KT H kvs xs) (k : List Key) {y : V} {u : Value} (ry : RelV y u) :
    KT H (kvs.map fun kv => if kv.1 = k then (kv.1, y) else kv) (xs.map (putAt k u)) := by
  induction r with
  | nil => exact .nil
  | @cons p q ps qs h t ih =>
    rw [List.map_cons, List.map_cons]
    refine .cons ?_ ih
    obtain ⟨h1, h2, h3⟩ := h
    unfold putAt
    by_cases e : p.1 = k
    · rw [if_pos e, if_pos (h1.symm.trans e)]; exact ⟨h1, h2, ry⟩
    · rw [if_neg e, if_neg (fun z => e (h1.trans z))]; exact ⟨h1, h2, h3⟩
theorem KT.put {H : Hp} {kvs : List (List Key × V)} {xs : List (List Key × Addr × Value)} (r : KT H kvs xs) (k : List Key) {b : Addr} {y : V} {u : Value} (hb : H b = some (.tup (k.map kV))) (ry : RelV y u) :
    KT H (putK kvs k y) (storedH xs k b u) := by
  have e : (kvs.any fun kv => decide (kv.1 = k)) = (atKey xs k).isSome := by
    rw [valV_any, (r.val k).isSome_eq, Option.isSome_map]
  unfold putK storedH
  rw [e]
  by_cases q : (atKey xs k).isSome = true
  · rw [if_pos q, if_pos q]; exact r.repl k ry
  · rw [if_neg q, if_neg q]; exact Paired.snoc r ⟨rfl, hb, ry⟩
theorem KT.keeps {H H' : Hp} {kvs : List (List Key × V)} {xs : List (List Key × Addr × Value)} (r : KT H kvs xs) (ht : ∀ b ys, H b = some (.tup ys) → H' b = some (.tup ys)) : KT H' kvs xs :=
  Paired.mapP r fun _ _ z => ⟨z.1, ht _ _ z.2.1, z.2.2⟩

section
variable {P : Program} {w : World} {H : Hp} {h : Heap} {a : Addr}
theorem rd_of {u : HO} (ok : HOk P w H h) (e : Rd H a u) : ObjOk P w H h a u := e.ok ok
theorem dk_rd {kvs : List (Key × V)} (ok : HOk P w H h) (e : Rd H a (.dK kvs)) : kvs.length ≤ sizeLine ∧ (a == sysModules) = false ∧ ∃ vs, KV kvs vs ∧ h.DictOf (mixKind P w) a vs :=
  show ObjOk P w H h a (.dK kvs) from rd_of ok e
theorem dk_of {kvs : List (Key × V)} (ok : HOk P w H h) (e : H a = some (.dK kvs)) : kvs.length ≤ sizeLine ∧ (a == sysModules) = false ∧ ∃ vs, KV kvs vs ∧ h.DictOf (mixKind P w) a vs := dk_rd ok (.inl e)
/-- a tracked tuple of ints and texts is a key -/
theorem key_of {ks : List Key} (ok : HOk P w H h) (e : H a = some (.tup (ks.map kV))) : (tupleKind (mixKind P w)).is h ks a := by
  obtain ⟨_, its, r, o, h1, h2, n, h3⟩ := (show ObjOk P w H h a (.tup (ks.map kV)) from ok a _ e)
  exact ⟨o, its.toArray, n, h1, h2, h3, by simpa using items_are r⟩
theorem dt_rd {kvs : List (List Key × V)} (ok : HOk P w H h) (e : Rd H a (.dT kvs)) : kvs.length ≤ sizeLine ∧ (a == sysModules) = false ∧
    ∃ xs, KT H kvs xs ∧ h.DictOfH (tupleKind (mixKind P w)) a xs := by
  obtain ⟨z, y, xs, r, o, es, ep, h1, h2, h3, h4, h5⟩ := (show ObjOk P w H h a (.dT kvs) from rd_of ok e)
  refine ⟨z, y, xs, r, o, es, ep, h1, h2, h3, h4, fun x hx => ?_, h5⟩
  have all : ∀ {l : List (List Key × V)} {m : List (List Key × Addr × Value)}, KT H l m → ∀ x ∈ m, (tupleKind (mixKind P w)).is h x.1 x.2.1 := by
    intro l m q
    induction q with
    | nil => intro x hx; exact nomatch hx
    | @cons p q ps qs hq t ih =>
      intro x hx
      rcases List.mem_cons.mp hx with e | hx
      · subst e
        exact key_of ok (by rw [← hq.1]; exact hq.2.1)
      · exact ih x hx
  exact all r x hx
theorem dt_of {kvs : List (List Key × V)} (ok : HOk P w H h) (e : H a = some (.dT kvs)) : kvs.length ≤ sizeLine ∧ (a == sysModules) = false ∧
    ∃ xs, KT H kvs xs ∧ h.DictOfH (tupleKind (mixKind P w)) a xs := dt_rd ok (.inl e)
end

/-- what the dict at a holds at the key y -/
def DGet (H : Hp) (a : Addr) (y : V) (r : Option V) : Prop :=
  (∃ kvs k, Rd H a (.dK kvs) ∧ y = kV k ∧ r = valV kvs k) ∨ ∃ kvs k b, Rd H a (.dT kvs) ∧ y = .ref b ∧ H b = some (.tup (k.map kV)) ∧ r = valV kvs k
/-- the heap behind a[y] = v -/
def DPut (H : Hp) (a : Addr) (y v : V) (H' : Hp) : Prop :=
  (∃ kvs k, H a = some (.dK kvs) ∧ y = kV k ∧ kvs.length < sizeLine ∧ H' = upd H a (.dK (putK kvs k v))) ∨
  ∃ kvs k b, H a = some (.dT kvs) ∧ y = .ref b ∧ H b = some (.tup (k.map kV)) ∧ kvs.length < sizeLine ∧ H' = upd H a (.dT (putK kvs k v))
theorem DGet.k {H : Hp} {a : Addr} {kvs : List (Key × V)} {k : Key} (e : H a = some (.dK kvs)) : DGet H a (kV k) (valV kvs k) := .inl ⟨kvs, k, .inl e, rfl, rfl⟩
theorem DGet.t {H : Hp} {a b : Addr} {kvs : List (List Key × V)} {k : List Key} (e : H a = some (.dT kvs)) (eb : H b = some (.tup (k.map kV))) : DGet H a (.ref b) (valV kvs k) := .inr ⟨kvs, k, b, .inl e, rfl, eb, rfl⟩
theorem DPut.k {H : Hp} {a : Addr} {kvs : List (Key × V)} {k : Key} {v : V} (e : H a = some (.dK kvs)) (hl : kvs.length < sizeLine) : DPut H a (kV k) v (upd H a (.dK (putK kvs k v))) := .inl ⟨kvs, k, e, rfl, hl, rfl⟩
theorem DPut.t {H : Hp} {a b : Addr} {kvs : List (List Key × V)} {k : List Key} {v : V} (e : H a = some (.dT kvs)) (eb : H b = some (.tup (k.map kV))) (hl : kvs.length < sizeLine) :
    DPut H a (.ref b) v (upd H a (.dT (putK kvs k v))) := .inr ⟨kvs, k, b, e, rfl, eb, hl, rfl⟩


section
variable {X : Cx} {pins : List (Addr × Obj)} {σ : St} {H : Hp} {s : Shared} {a : Addr} {y v : V} {u r : Value} {o : Option V} {A : Around} {E : Value → Shared → Prop}

theorem Inv.big (I : Inv X pins σ H s) : sysModules < s.heap.objs.size := by
  have h : mainGlobals < s.heap.objs.size := (I.mod.glob.keeps I.bk).lt
  exact Nat.lt_trans (by decide) h

/-- d[y], there -/
theorem d_getItem {Q : Value → Shared → Prop} (hu : A.units + 1 < cLine) (I : Inv X pins σ H s) (g : DGet H a y (some v)) (ry : RelV y u) (h : ∀ w' s', Inv X pins σ H s' → RelV v w' → Q w' s') :
    wpAny (model X.prog X.w) A (getItem (.ref a) u) Q E s := by
  rcases g with ⟨kvs, k, e, ey, l⟩ | ⟨kvs, k, b, e, ey, eb, l⟩
  · subst ey
    obtain ⟨z, hd, vs, rel, dd⟩ := dk_rd I.hok e
    obtain ⟨w', hw, rw'⟩ := RelO.some_of (v := v) (o := valueAt vs k) (by rw [l]; exact rel.val k)
    exact wpAny_getItem_of (kV_is ry) dd.mapOf hw (h w' _ (I.tok _) rw')
  · subst ey
    cases (show u = Value.ref b from ry)
    obtain ⟨z, hd, xs, rel, dd⟩ := dt_rd I.hok e
    obtain ⟨w', hw, rw'⟩ := RelO.some_of (v := v) (o := (atKey xs k).map (·.2)) (by rw [l]; exact rel.val k)
    obtain ⟨p, hp, hp2⟩ := Option.map_eq_some_iff.mp hw
    refine wpAny_getItem_heap (tupleKind_room_in1 hu) (key_of I.hok eb) dd hp ?_
    rw [hp2]
    exact h w' _ (I.tok _) rw'
theorem d_notIn {Q : Value → Shared → Prop} (hu : A.units + 1 < cLine) (I : Inv X pins σ H s) (g : DGet H a y o) (ry : RelV y u) (h : ∀ s', Inv X pins σ H s' → Q (.bool (!o.isSome)) s') :
    wpAny (model X.prog X.w) A (compareOp .NotIn u (.ref a)) Q E s := by
  rcases g with ⟨kvs, k, e, ey, l⟩ | ⟨kvs, k, b, e, ey, eb, l⟩
  · subst ey
    obtain ⟨z, hd, vs, rel, dd⟩ := dk_rd I.hok e
    refine wpAny_notIn_of (kV_is ry) hd dd.mapOf ?_
    rw [← (rel.val k).isSome_eq, ← l]
    exact h _ (I.tok _)
  · subst ey
    cases (show u = Value.ref b from ry)
    obtain ⟨z, hd, xs, rel, dd⟩ := dt_rd I.hok e
    refine wpAny_notIn_heap (tupleKind_room_in1 hu) (key_of I.hok eb) hd dd ?_
    have q := (rel.val k).isSome_eq
    rw [Option.isSome_map] at q
    rw [← q, ← l]
    exact h _ (I.tok _)
/-- a dict's object is replaced -/
theorem d_write {h' : Heap} {t' : Nat} {ob : HO} (I : Inv X pins σ H s) (mu : Mut (H a)) (hs : Heap.SameBut a s.heap h') (he : ∃ q, h'.get? a = some q) (new : ObjOk X.prog X.w (upd H a ob) h' a ob) :
    Inv X pins σ (upd H a ob) { s with heap := h', toks := t' } :=
  I.write (x := a) (e := a) mu (.inl rfl) (fun b q hb z => (hs.2 b hb).trans z) he new
theorem dk_new {P : Program} {w : World} {H' : Hp} {h' : Heap} {kvs : List (Key × V)} {vs : List (Key × Value)} (z : kvs.length ≤ sizeLine) (hd : (a == sysModules) = false) (rel : KV kvs vs) (dd : h'.DictOf (mixKind P w) a vs) :
    ObjOk P w H' h' a (.dK kvs) := ⟨z, hd, vs, rel, dd⟩
/-- d[y] = v -/
theorem d_setItem {H' : Hp} {Q : Unit → Shared → Prop} (hu : A.units + 1 < cLine) (I : Inv X pins σ H s) (g : DPut H a y v H') (ry : RelV y u) (rv : RelV v r) (h : ∀ s', Inv X pins σ H' s' → Q () s') :
    wpAny (model X.prog X.w) A (setItem (.ref a) u r) Q E s := by
  rcases g with ⟨kvs, k, e, ey, l, eH⟩ | ⟨kvs, k, b, e, ey, eb, l, eH⟩
  · subst ey eH
    obtain ⟨z, hd, vs, rel, dd⟩ := dk_of I.hok e
    have hz : vs.length ≤ sizeLine := by rw [← rel.length]; exact z
    have hl : (putK kvs k v).length ≤ sizeLine := by have := length_putK kvs k v; omega
    refine wpAny_setItem_pairs (hsz := hz) (kV_is ry) dd fun h' dd' hs => h _ ?_
    have he : ∃ q, h'.get? a = some q := let ⟨q, _, _, hq, _⟩ := dd'; ⟨q, hq⟩
    exact d_write I (by rw [e]; exact True.intro) hs he (dk_new hl hd (rel.put k rv) dd')
  · subst ey eH
    cases (show u = Value.ref b from ry)
    obtain ⟨z, hd, xs, rel, dd⟩ := dt_of I.hok e
    have hz : xs.length ≤ sizeLine := by rw [← Paired.length rel]; exact z
    have hl : (putK kvs k v).length ≤ sizeLine := by have := length_putK kvs k v; omega
    refine wpAny_setItem_heap (hsz := hz) (tupleKind_room_in1 hu) (key_of I.hok eb) dd fun h' dd' hs => h _ ?_
    obtain ⟨q, es, ep, hq, h2, h3, h4, _, h5⟩ := dd'
    refine d_write I (by rw [e]; exact True.intro) hs ⟨q, hq⟩ ⟨hl, hd, _, (rel.put k eb rv).keeps fun c ys ec => ?_, q, es, ep, hq, h2, h3, h4, h5⟩
    rw [upd_ne (ne_of ec e (fun z => nomatch z))]
    exact ec
end

section
variable {X : Cx} {pins : List (Addr × Obj)} {σ : St} {H : Hp} {s : Shared} {a : Addr} {kvs : List (Key × V)} {k : Key} {u : Value} {A : Around} {E : Value → Shared → Prop}
end


/-! ### readings and rules -/
/-- the element of a subscription, not a slice -/
def NoSl (i : Expr) : Prop := ∀ ov iv, subscripted i false ov iv = operate [ov, iv] (getItem ov iv)
theorem subD_of {prog : Program} {w : World} {A : Around} {E : Value → Shared → Prop} {s : Shared} {env : Env} {value slice : Expr} {pos : Pos} {T id : String} {Q : Value → Shared → Prop}
    (hl : typeLookup (.type T) "__getitem__" = pure (some (.builtin id))) (hs : NoSl slice)
    (h : wpAny (model prog w) A (eval value env) (fun o s₁ => wpAny (model prog w) A (eval slice env) (fun i s₂ => s₂.TypeIs o T ∧ wpAny (model prog w) A (getItem o i) Q E s₂) E s₁) E s) :
    wpAny (model prog w) A (eval (.Subscript value slice pos) env) Q E s := by
  refine Subscript_ (wpAny_mono h (fun o s₁ h₁ => wpAny_mono h₁ (fun i s₂ h₂ => ?_) fun _ _ x => x) fun _ _ x => x)
  obtain ⟨hT, h₂⟩ := h₂
  unfold subscriptTail
  refine wpAny_bind ?_
  rw [getitemInPython_of_ne hT.not_modules]
  refine wpAny_bind (wpAny_specialOf hT hl ?_)
  have fin : wpAny (model prog w) A (subscripted slice false o i) (fun r s₃ => wpAny (model prog w) A (letTemporaryGo value o r >>= fun _ => pure r) Q E s₃) E s₂ := by
    rw [hs o i]
    exact wpAny_operating (wpAny_mono h₂ (fun r s₃ h₃ => wpAny_bind (wpAny_letTemporaryGo (wpAny_pure h₃))) fun _ _ x => x)
  first
    | exact wpAny_pure (wpAny_bind fin)
    | exact wpAny_bind (wpAny_pure (wpAny_bind fin))
    | exact wpAny_bind fin

theorem dict_typeIs {X : Cx} {pins : List (Addr × Obj)} {σ : St} {H : Hp} {s : Shared} {a : Addr} {y : V} {o : Option V} (I : Inv X pins σ H s) (g : DGet H a y o) : s.TypeIs (.ref a) "dict" := by
  rcases g with ⟨kvs, k, e, _, _⟩ | ⟨kvs, k, b, e, _, _, _⟩
  · obtain ⟨_, _, vs, _, dd⟩ := dk_rd I.hok e
    exact dd.typeIs
  · obtain ⟨_, _, xs, _, dd⟩ := dt_rd I.hok e
    exact dd.typeIs
/-- d[y] -/
def tDGet (td ty : TE) : TE := fun σ H Q => td σ H fun x H1 => ty σ H1 fun y H2 => ∃ a v, x = .ref a ∧ DGet H2 a y (some v) ∧ Q v H2
def tDNotIn (ty td : TE) : TE := fun σ H Q => ty σ H fun y H1 => td σ H1 fun x H2 => ∃ a o, x = .ref a ∧ DGet H2 a y o ∧ Q (.bl (!o.isSome)) H2
/-- d[y] = v -/
def sDPut (td ty tv : TE) : TS := fun D σ H => tv σ H fun v H1 => td σ H1 fun x H2 => ty σ H2 fun y H3 => ∃ a H4, x = .ref a ∧ DPut H3 a y v H4 ∧ D.nx σ H4
section
variable {X : Cx} {o i e value : Expr} {pos pos' tpos : Pos} {td ty tv : TE}
theorem pe_dget (hu : X.A.units + 1 < cLine) (ho : PE X o td) (hi : PE X i ty) (hs : NoSl i) : PE X (.Subscript o i pos) (tDGet td ty) := by
  intro pins s σ H Q I h
  refine subD_of PySem.F.slot_dict_getitem.lookup hs (thn (ho pins s σ H _ I h) fun u s1 ⟨x, H1, I1, rx, q1⟩ => thn (hi pins s1 σ H1 _ I1 q1) fun iv s2 ⟨y, H2, I2, ry, a, v, ex, g, q2⟩ => ?_)
  subst ex
  obtain rfl : u = Value.ref a := rx
  exact ⟨dict_typeIs I2 g, d_getItem hu I2 g ry fun w' s3 I3 rw' => ⟨v, H2, I3, rw', q2⟩⟩
theorem pc_dnotin (hu : X.A.units + 1 < cLine) (hi : PE X i ty) (ho : PE X o td) : PC X .NotIn i o (tDNotIn ty td) := by
  intro pins s σ H Q I h
  refine thn (hi pins s σ H _ I h) fun iv s1 ⟨y, H1, I1, ry, q1⟩ => thn (ho pins s1 σ H1 _ I1 q1) fun u s2 ⟨x, H2, I2, rx, a, ov, ex, g, q2⟩ => ?_
  subst ex
  obtain rfl : u = Value.ref a := rx
  exact d_notIn hu I2 g ry fun s3 I3 => ⟨.bl (!ov.isSome), H2, I3, rfl, q2⟩
theorem ps_dput (hu : X.A.units + 1 < cLine) (ho : PE X o td) (hi : PE X i ty) (hv : PE X value tv) (hs : swapsWith value (some (.Subscript o i pos')) pos.line X.env = pure false) :
    PS X (.Assign [.Subscript o i pos'] value pos) (sDPut td ty tv) := by
  intro pins s σ H D I h
  refine wpAny_Assign_Subscript (thn (hv pins s σ H _ I h) fun r s1 ⟨v, H1, I1, rv, q1⟩ => thn (ho pins s1 σ H1 _ I1 q1) fun u s2 ⟨x, H2, I2, rx, q2⟩ => thn (hi pins s2 σ H2 _ I2 q2) fun iv s3 ⟨y, H3, I3, ry, a, H4, ex, g, q3⟩ => ?_) hs
  subst ex
  obtain rfl : u = Value.ref a := rx
  exact d_setItem hu I3 g ry rv fun s4 I4 => ⟨σ, H4, I4, q3⟩
end


/-! ### displays -/
theorem dk_empty {P : Program} {w : World} {H : Hp} (h : Heap) (hb : sysModules < h.objs.size) : ObjOk P w H (h.push { cls := .type "dict", data := .dict #[] }) h.objs.size (.dK []) :=
  ⟨Nat.zero_le _, beq_eq_false_iff_ne.mpr (Ne.symm (Nat.ne_of_lt hb)), [], .nil, Heap.DictOf.new h⟩
theorem dt_empty {P : Program} {w : World} {H : Hp} (h : Heap) (hb : sysModules < h.objs.size) : ObjOk P w H (h.push { cls := .type "dict", data := .dict #[] }) h.objs.size (.dT []) :=
  ⟨Nat.zero_le _, beq_eq_false_iff_ne.mpr (Ne.symm (Nat.ne_of_lt hb)), [], .nil, _, #[], 0, Heap.get?_push_size _ rfl, ⟨rfl, rfl, rfl⟩, rfl, rfl, List.nodup_nil⟩
/-- {}, to be a dict of the kind that is wanted -/
def tDNewK : TE := fun _ H Q => ∀ p, H p = none → Q (.ref p) (upd H p (.dK []))
def tDNewT : TE := fun _ H Q => ∀ p, H p = none → Q (.ref p) (upd H p (.dT []))
section
variable {X : Cx} {pos : Pos}
theorem pe_dnewK : PE X (.Dict [] [] pos) tDNewK := fun pins s σ H Q I h =>
  wpAny_Dict_empty ⟨.ref s.heap.objs.size, _, I.laid (a := s.heap.objs.size) (o := .dK []) (t' := s.toks) (fun _ _ q => Heap.get?_push_of_some _ q) (Nat.le_refl _) (dk_empty s.heap I.big), rfl, h _ (I.hok.fresh (Nat.le_refl _))⟩
theorem pe_dnewT : PE X (.Dict [] [] pos) tDNewT := fun pins s σ H Q I h =>
  wpAny_Dict_empty ⟨.ref s.heap.objs.size, _, I.laid (a := s.heap.objs.size) (o := .dT []) (t' := s.toks) (fun _ _ q => Heap.get?_push_of_some _ q) (Nat.le_refl _) (dt_empty s.heap I.big), rfl, h _ (I.hok.fresh (Nat.le_refl _))⟩
end

/-! ### methods -/
structure M2 (X : Cx) (o : Expr) (m : Str) (apos : Pos) (e f : Expr) (cpos : Pos) : Prop where
  base : attributeBase o m X.env (eval o X.env) = eval o X.env
  few : ((backTo cpos (starEach [e, f] X.env)).all (fun x => !x.1) && (backToKw cpos (keywordEach [] X.env)).all (fun x => x.1.isSome)
    && decide (([e, f] : List Expr).length + ([] : List Keyword).length + (if ([] : List Keyword).isEmpty then 0 else 1) < 30)) = true
  line : (apos.endLine == cpos.line) = true
  trees : backTo cpos (starEach [e, f] X.env) = [(false, eval e X.env), (false, eval f X.env)]

/-- a is a dict, whatever its keys -/
def IsD (H : Hp) (a : Addr) : Prop := (∃ kvs, Rd H a (.dK kvs)) ∨ ∃ kvs, Rd H a (.dT kvs)
theorem isD_at {X : Cx} {pins : List (Addr × Obj)} {σ : St} {H : Hp} {s : Shared} {a : Addr} (I : Inv X pins σ H s) (d : IsD H a) :
    s.TypeIs (.ref a) "dict" ∧ (∀ b, Value.ref a = .ref b → ∃ ob, s.heap.get? b = some ob ∧ ob.dict = none) ∧ (a == sysModules) = false := by
  rcases d with ⟨kvs, e⟩ | ⟨kvs, e⟩
  · obtain ⟨_, hd, vs, _, dd⟩ := dk_rd I.hok e
    refine ⟨dd.typeIs, fun b q => ?_, hd⟩
    cases q
    obtain ⟨ob, _, _, h1, h2, _⟩ := dd
    exact ⟨ob, h1, h2.2.1⟩
  · obtain ⟨_, hd, xs, _, dd⟩ := dt_rd I.hok e
    refine ⟨dd.typeIs, fun b q => ?_, hd⟩
    cases q
    obtain ⟨ob, _, _, h1, h2, _⟩ := dd
    exact ⟨ob, h1, h2.2.1⟩

section
variable {X : Cx} {pins : List (Addr × Obj)} {σ : St} {H : Hp} {s : Shared} {a : Addr} {y d : V} {u r : Value} {o : Option V} {A : Around} {E : Value → Shared → Prop}
/-- d.get(y, x) -/
theorem d_get2 {Q : Value → Shared → Prop} (hu : A.units + 1 < cLine) (I : Inv X pins σ H s) (g : DGet H a y o) (ry : RelV y u) (rd : RelV d r) (h : ∀ w' s', Inv X pins σ H s' → RelV (o.getD d) w' → Q w' s') :
    wpAny (model X.prog X.w) A (call (.builtin "dict.get") [.ref a, u, r]) Q E s := by
  rcases g with ⟨kvs, k, e, ey, l⟩ | ⟨kvs, k, b, e, ey, eb, l⟩
  · subst ey
    obtain ⟨z, hd, vs, rel, dd⟩ := dk_rd I.hok e
    refine call_meetsIn PySem.F.slot_dict_get dd.typeIs PySem.F.entry_dict_get (PySem.F.args_dict_get_3 _ _ _) (meets_dict_get_default (mixKind X.prog X.w) a (kV_is ry) hd r) ⟨_, dd.mapOf, h _ _ (I.tok _) ?_⟩
    rw [l]
    exact (rel.val k).getD rd
  · subst ey
    cases (show u = Value.ref b from ry)
    obtain ⟨z, hd, xs, rel, dd⟩ := dt_rd I.hok e
    refine call_meetsIn PySem.F.slot_dict_get dd.typeIs PySem.F.entry_dict_get (PySem.F.args_dict_get_3 _ _ _) (meetsH_dict_get_default (tupleKind (mixKind X.prog X.w)) a b hd r) ⟨tupleKind_room_in1 hu, k, xs, key_of I.hok eb, dd, h _ _ (I.tok _) ?_⟩
    rw [l]
    exact (rel.val k).getD rd
end

def tDGet2 (td ty tx : TE) : TE := fun σ H Q => td σ H fun x H1 => ∃ a, x = .ref a ∧ IsD H1 a ∧ ty σ H1 fun y H2 => tx σ H2 fun z H3 => ∃ o, DGet H3 a y o ∧ Q (o.getD z) H3
section
variable {X : Cx} {o e f : Expr} {apos cpos : Pos} {td ty tx : TE}
theorem pe_dget2 (hu : X.A.units + 1 < cLine) (ho : PE X o td) (he : PE X e ty) (hf : PE X f tx) (m : M2 X o "get" apos e f cpos) : PE X (.Call (.Attribute o "get" apos) [e, f] [] cpos) (tDGet2 td ty tx) := by
  intro pins s σ H Q I h
  refine wpAny_Call_method m.base m.few m.line PySem.F.plainAttrs_dict PySem.F.slot_dict_get PySem.F.type_dict_get (thn (ho pins s σ H _ I h) fun u s1 ⟨x, H1, I1, rx, a, ex, d, q1⟩ => ?_)
  subst ex
  obtain rfl : u = Value.ref a := rx
  obtain ⟨t1, t2, _⟩ := isD_at I1 d
  refine ⟨t1, t2, ?_⟩
  rw [m.trees]
  refine Calls.callWith_builtin rfl (Calls.evalArgs_plain (Calls.spliced_cons (thn (he pins s1 σ H1 _ I1 q1) fun iv s2 ⟨y, H2, I2, ry, q2⟩ =>
    Calls.spliced_cons (thn (hf pins s2 σ H2 _ I2 q2) fun fv s3 ⟨z, H3, I3, rz, ov, g, q3⟩ => Calls.spliced_nil ?_))))
  exact d_get2 hu I3 g ry rz fun w' s4 I4 rw' => ⟨_, H3, I4, rw', q3⟩
end

/-! ### dict(d): a copy -/
section
variable {X : Cx} {pins : List (Addr × Obj)} {σ : St} {H : Hp} {s : Shared} {a : Addr} {kvs : List (Key × V)} {A : Around} {E : Value → Shared → Prop}
end


section
variable {X : Cx} {pins : List (Addr × Obj)} {σ : St} {H : Hp} {s : Shared} {a : Addr} {y : V} {u : Value} {A : Around} {E : Value → Shared → Prop}
end
end L2

namespace Att
open PySem PySem.W PySem.Calls PyProof.Rows

/-! ### the script -/
theorem ints_of_wellAll {P : Params} {h : Heap} : ∀ (ns : List Int) (vs : List Value), WellAll P h vs (ns.map WData.int) → IntsAre vs ns := by
  intro ns
  induction ns with
  | nil =>
    intro vs w
    rw [List.map_nil] at w
    cases w
    exact .nil
  | cons n ns ih =>
    intro vs w
    rw [List.map_cons] at w
    cases w with
    | cons a b =>
      cases a
      exact .cons _ _ (ih _ b)

theorem script_of {l : OpenLaw} {n : Nat} (hn : l.most = some n) {P : Params} {h : Heap} {args : List WData} {vals : List Value}
    (hpre : l.row.toRowW.claim.pre args = true) (hwl : WellAll P h vals args) :
    ∃ a vs ns, vals = [Value.ref a] ∧ args = [WData.list (ns.map WData.int)] ∧ h.get? a = some { cls := .type "list", data := .seq vs.toArray } ∧ IntsAre vs ns ∧ ns.length ≤ n := by
  have hsh : WShape.hasAll [] args [.list .int] = true := (pre_splitW hpre).1
  have hc : l.pre.holds [] { args := args } = true := (pre_splitW hpre).2
  obtain ⟨d, r, rfl, h1, h2⟩ := hasAllW_cons hsh
  obtain rfl := hasAllW_nil h2
  obtain ⟨xs, rfl, h3⟩ := hasW_list h1
  obtain ⟨ns, rfl⟩ := items_int h3
  have hlen : ns.length ≤ n := by
    unfold OpenLaw.pre at hc
    have h4 : (WTm.not (.lt (.lit (.int (n : Int))) (.len (.arg 0)))).holds [] { args := [.list (ns.map .int)] } = true := by
      have h4 := (holds_andW hc).1
      rw [hn] at h4
      exact h4
    have h5 := condW_of h4 (w_not (w_lt w_lit (w_len_list (w_arg rfl))))
    rw [List.length_map] at h5
    refine Nat.le_of_not_lt fun q => ?_
    have q' : (n : Int) < ((ns.length : Nat) : Int) := by omega
    first
      | (rw [decide_eq_true q'] at h5; exact absurd h5 (by decide))
      | (simp at h5; omega)
  cases hwl with
  | cons w1 w2 =>
    cases w2
    cases w1 with
    | list ho hall => exact ⟨_, _, ns, rfl, rfl, ho, ints_of_wellAll ns _ hall, hlen⟩

theorem post_true (l : OpenLaw) (args : List WData) : l.row.toRowW.claim.post args (.bool true) args = true :=
  postW_of (r := l.row.toRowW) (X := (true == true))
    (show WShape.has [] (.bool true) .bool = true by first | rfl | decide | simp [WShape.has, WShape.arms, WShape.armsAll])
    (show (WTm.eq .res (.lit (.bool true))).value [] { args := args, res := some (.bool true), after := args } = some (.bool (true == true)) from w_eq_bool (w_res rfl) w_lit) rfl

/-! ### the attachment: holds_open's last premise (the goal 'hc' behind k_head) from a wpAny of the law's body -/
/-- the same from a codeAny of the CALL (for a layer whose function contracts speak of calls) -/
theorem attach_call {l : OpenLaw} {n : Nat} {q : Program} {loose : List Str} {XP : (Str → Option Value) → Heap → Prop} {YP : World → Heap → Prop} {d : DefRec}
    (hn : l.most = some n) (hdf : d.params.defaults = [])
    (call : ∀ (w : World) (s₀ s₁ : Shared) (mg mb : Str → Option Value) (fa : Addr) (o : Obj) (pm cd doc : Value) (a : Addr) (vs : List Value) (ns : List Int),
      Ground q loose [] XP w s₀ mg mb s₁.heap → YP w s₁.heap →
      s₁.heap.get? fa = some o → o.data = .func (docDef d.name d.params d.body d.scope pm cd doc) → s₁.heap.CodeRec cd d.name → mg d.name = some (.ref fa) →
      s₁.heap.get? a = some { cls := .type "list", data := .seq vs.toArray } → IntsAre vs ns → ns.length ≤ n → s₁.gens = #[] →
      codeAny (model l.prog w) callerA (.call (.ref fa) ⟨[.ref a], []⟩) (fun r s' => r = .ok (.ret (.bool true)) ∧ OldK s₁.heap s'.heap ∧ s'.os = s₁.os ∧ AllBare s'.gens) s₁) :
    WalkO q loose XP YP l.row.toRowW d [] (fun f vs => PySem.call f vs) := by
  intro w s₀ s₁ mg mb G Y fa o pm cd doc dV kV ho hd hcd hD hmg hg args vals as hpre hlay hrd hwl hlo
  obtain rfl : dV = .none := Dflts.none hD hdf
  obtain rfl : kV = .none := Dflts.noKw hD
  obtain ⟨a, vs, ns, rfl, rfl, hobj, hints, hlen⟩ := script_of hn hpre hwl
  refine enter_call (codeAny_mono (call w s₀ s₁ mg mb fa o pm cd doc a vs ns G Y ho (fd_plain hd) hcd hmg hobj hints hlen hg) fun r s' hq => ?_)
  obtain ⟨rfl, h2, h3, h4⟩ := hq
  exact ⟨.inl ⟨.bool true, .bool true, [], rfl, fun _ => rfl, .bool true, post_true l _, fun _ => ⟨List.Pairwise.nil, fun _ hm => (nomatch hm)⟩⟩, h2, h3, h4⟩

/-! ### rules over ANY heap (no ledger) from facts about the written part K: the library's own take a ledger (News) for what they write -/
section
variable {prog : Program} {w : World} {A : Around} {E : Value → Shared → Prop} {s : Shared} {K : Frag}

/-! the whole heap as the ledger: makes every rule that writes through a ledger a rule over any heap -/
def ledger (h : Heap) (L d : Addr) : List (Addr × Obj) := (List.range h.objs.size).filterMap fun a => if a = L ∨ a = d then none else (h.get? a).map fun o => (a, o)
end
end Att

namespace L2
open PySem PySem.Spec PyProof.Rows

theorem vals_ints {vs : List Value} {ns : List Int} (h : IntsAre vs ns) : Vals (ns.map V.int) vs := by
  induction h with
  | nil => exact .nil
  | cons n t h ih => exact .cons ⟨t, rfl⟩ ih

/-- nothing is tracked but the script, known to the object (or it is an object of the module) -/
def Only (H : Hp) : Prop := ∀ b, H b = none ∨ ∃ o xs, H b = some (.frz o (.lst xs))

/-- THE HEAD: the law's promise, at the heap behind the top. F, the promise of the law's def, may use that base is part of the heap (so K.In base, base.Ns mainGlobals mg stand in Mod) -/
theorem law_call {P : Program} {w : World} {K : PySem.W.Frag} {mg mb : Str → Option Value} {CX : CXT} {k : Nat} {fa a : Addr} {fd : FuncData} {x : Str} {sp : Sp} {s₁ : Shared} {vs : List Value} {ns : List Int}
    (KX : K.In s₁.heap) (hns : s₁.heap.Ns mainGlobals mg) (hb : s₁.heap.Ns builtinsNs mb) (hbb : ∀ x : Str, x ≠ "__name__" → mb x = bootBuiltins x) (hlim : s₁.heap.NoLimit) (hg : s₁.gens = #[])
    (ha : s₁.heap.get? a = some { cls := .type "list", data := .seq vs.toArray }) (hi : IntsAre vs ns) (hl : ns.length ≤ sizeLine) (hr : Room k callerA)
    (F : ∀ base : Heap, K.In base → base.Ns mainGlobals mg → FnOk P w K mg base CX k fa fd [x] sp) (hbind : ∀ (s : Shared) (u : Value), BindsTo s fd ⟨[u], []⟩ [(x, u)])
    (hsp : ∀ H : Hp, Only H → SqL K H a (ns.map V.int) → sp [.ref a] H (fun v _ => v = .bl true) fun _ _ _ => False)
    (hCX : ∀ H e s', CX [] H s₁ (fun _ _ _ => False) e s' → False) :
    codeAny (model P w) callerA (.call (.ref fa) ⟨[.ref a], []⟩) (fun r s' => r = .ok (.ret (.bool true)) ∧ OldK s₁.heap s'.heap ∧ s'.os = s₁.os ∧ AllBare s'.gens) s₁ := by
  have rv := vals_ints hi
  have lenV := hi.length
  -- from an abstract heap in which nothing but the script may be tracked
  have core : ∀ H : Hp, Only H → SqL K H a (ns.map V.int) → HOk P w H s₁.heap → (∀ b, H b ≠ none → b = a) → (H a ≠ none → K.lookup a = none) →
      codeAny (model P w) callerA (.call (.ref fa) ⟨[.ref a], []⟩) (fun r s' => r = .ok (.ret (.bool true)) ∧ OldK s₁.heap s'.heap ∧ s'.os = s₁.os ∧ AllBare s'.gens) s₁ := by
    intro H hO hS hok hA hK
    have base_of : ∀ {b : Addr} {o : Obj}, s₁.heap.get? b = some o → H b = none → (hidT s₁.heap H).get? b = some o := fun e n => hidT_get e n
    have noA : ∀ {b : Addr} {o : Obj} {es : Array DictEntry} {ep : Nat}, s₁.heap.get? b = some o → o.data = .dict es ep → H b = none := fun {b o es ep} e d => by
      cases q : H b with
      | none => rfl
      | some u =>
        have e' : b = a := hA b (by rw [q]; simp)
        subst e'
        rw [ha] at e; cases e
        have d' : Data.seq vs.toArray _ = Data.dict es ep := d
        cases d'
    have nsK : ∀ {b : Addr} {m : Str → Option Value}, s₁.heap.Ns b m → (hidT s₁.heap H).Ns b m := fun {b m} ⟨o, es, ep, e, d, r⟩ => ⟨o, es, ep, base_of e (noA e d), d, r⟩
    have hKb : K.In (hidT s₁.heap H) := fun b o e => base_of (KX b o e) (by
      cases q : H b with
      | none => rfl
      | some u =>
        have e' : b = a := hA b (by rw [q]; simp)
        subst e'
        rw [hK (by rw [q]; simp)] at e; cases e)
    have hM : Mod K mg (hidT s₁.heap H) := ⟨hKb, nsK hns, ⟨mb, nsK hb, hbb⟩, let ⟨mc, h1, h2⟩ := hlim; ⟨mc, nsK h1, h2⟩⟩
    have e0 : Env0 P w K mg (hidT s₁.heap H) callerA [] s₁ H := ⟨rfl, hM, fun b o e => of_hidT e, Nat.le_of_eq (hidT_size _ _), trivial, fun b hb => absurd (show b ∈ ([] : List Addr) from hb) (by simp), hok, .of_eq hg⟩
    refine codeAny_mono ((F _ hKb (nsK hns)).run callerA [] s₁ H ⟨[.ref a], []⟩ [.ref a] [.ref a] _ _ hr e0 (hbind s₁ (.ref a)) (.cons rfl .nil) (hsp H hO hS)) fun r s' h => ?_
    cases r with
    | error e => exact (hCX H e s' h).elim
    | ok fl =>
      cases fl with
      | next => exact False.elim h
      | brk => exact False.elim h
      | cont => exact False.elim h
      | ret u =>
        obtain ⟨v, H', os, bare, un, hok', r', q⟩ := h
        have q' : v = .bl true := q
        subst q'
        obtain rfl : u = Value.bool true := r'
        refine ⟨rfl, OldK.of_keep fun b o e => ?_, os, bare⟩
        cases q : H b with
        | none => exact un.keep b o e q (by intro z; exact absurd (show b ∈ ([] : List Addr) from z) (by simp)) (by simp)
        | some u =>
          rcases hO b with z | ⟨ob, xs, z⟩
          · rw [q] at z; cases z
          · have z2 := un.frzs b ob _ z
            obtain ⟨e1, _⟩ := hok b _ z
            obtain ⟨e2, _⟩ := hok' b _ z2
            rw [e] at e1; cases e1
            exact e2
  cases hk : K.lookup a with
  | some o =>
    -- the script is one of the module's own objects
    have e := KX a o hk
    rw [ha] at e
    cases e
    refine core (fun _ => none) (fun _ => .inl rfl) (.inr ⟨_, vs.toArray, _, hk, rfl, rfl, rfl, by rw [List.size_toArray, lenV]; exact hl, by simpa using rv⟩) (fun b u z => by have z' : (none : Option HO) = some u := z; cases z') (fun b z => absurd rfl z) fun z => absurd rfl z
  | none =>
    refine core (fun b => if b = a then some (.frz { cls := .type "list", data := .seq vs.toArray } (.lst (ns.map V.int))) else none) (fun b => ?_) (.inl (.inr ⟨{ cls := .type "list", data := .seq vs.toArray }, if_pos rfl⟩)) (fun b u z => ?_) (fun b z => ?_) fun _ => hk
    · by_cases hb : b = a
      · exact .inr ⟨_, _, if_pos hb⟩
      · exact .inl (if_neg hb)
    · by_cases hb : b = a
      · have z' := (if_pos hb).symm.trans z
        cases z'
        subst hb
        exact ⟨ha, by rw [List.length_map]; exact hl, vs, _, rv, ha⟩
      · have z' := (if_neg hb).symm.trans z
        cases z'
    · by_cases hb : b = a
      · exact hb
      · exact absurd (if_neg hb) z
end L2

namespace L2
open PySem PySem.Spec PyProof.Rows

abbrev KOf {K : PySem.W.Frag} {h : Heap} (_ : K.In h) : PySem.W.Frag := K

/-- the goal that k_head leaves (case hc), from the law's promise. F gives the function object fd (K's own) once, then the promise over every base -/
theorem walk_of {l : PySem.W.OpenLaw} {n k : Nat} {q : Program} {loose : List Str} {XP : (Str → Option Value) → Heap → Prop} {YP : World → Heap → Prop} {d : DefRec} {K : Params → PySem.W.Frag} {CX : World → CXT} {sp : World → Sp} {x : Str}
    (hn : l.most = some n) (hn2 : n ≤ sizeLine) (hdf : d.params.defaults = []) (hr : Room k callerA)
    (hY : ∀ (w : World) (h : Heap), YP w h → (K w.params).In h)
    (F : ∀ (w : World) (mg : Str → Option Value) (fa : Addr) (h : Heap), (K w.params).In h → h.Ns mainGlobals mg → mg d.name = some (.ref fa) →
      ∃ fd : FuncData, (∀ (s : Shared) (u : Value), BindsTo s fd ⟨[u], []⟩ [(x, u)]) ∧
        ∀ base : Heap, (K w.params).In base → base.Ns mainGlobals mg → FnOk l.prog w (K w.params) mg base (CX w) k fa fd [x] (sp w))
    (hsp : ∀ (w : World) (H : Hp) (a : Addr) (ns : List Int), ns.length ≤ n → Only H → SqL (K w.params) H a (ns.map V.int) → sp w [.ref a] H (fun v _ => v = .bl true) fun _ _ _ => False)
    (hCX : ∀ (w : World) (H : Hp) (s : Shared) (e : Value) (s' : Shared), CX w [] H s (fun _ _ _ => False) e s' → False) :
    PySem.W.WalkO q loose XP YP l.row.toRowW d [] (fun f vs => PySem.call f vs) := by
  refine Att.attach_call hn hdf fun w s₀ s₁ mg mb fa o pm cd doc a vs ns G Y ho hd hcd hmg hobj hints hlen hg => ?_
  have KX := hY w _ Y
  obtain ⟨fd, hb, hF⟩ := F w mg fa _ KX G.T.g hmg
  exact law_call KX G.T.g G.T.b G.T.builtins G.T.nolimit hg hobj hints (Nat.le_trans hlen hn2) hr hF hb (fun H hO hS => hsp w H a ns hlen hO hS) fun H e s' => hCX w H s₁ e s'
end L2

/- THE LAST THEOREM (shape; LID, My.* are yours):
   My.Adr: a structure of the addresses that your layer names (classes, functions); My.Txt K t: a structure (Prop) of the equations over K;
   My.txt_mk : {K} {implicit addresses ..} (e1 : nsIn K mainGlobals "law" = some (some (.ref f))) (e2 : K.lookup f = some ⟨oc, od, .func (fnOf "law" "law" params body scope dV kV doc pm an cdv ct), sl⟩) (e3 : codeIn K cdv "law" = true) .. : ∃ t, My.Txt K t

set_option maxRecDepth 100000 in
set_option maxHeartbeats 0 in
theorem PySem.Challenge.cw_LID_holds : PySem.Challenge.rw_LID.Holds := by
  w_on; o_law; k_head; (case hw => w_witness2)
  k_fill
  refine L2.walk_of (l := PySem.Challenge.rw_LID) (n := 63) (k := 40) (x := "script") (CX := fun w => ..) (sp := fun _ => My.sp_law) rfl (by decide) rfl ⟨rfl, by decide, by decide⟩ (fun w h Y => PySem.W.kIn_of Y) ?F ?S ?C
  case F =>
    intro w mg fa h KX G hmg
    have T : ∃ t, My.Txt (L2.KOf KX) t := by
      dsimp only [L2.KOf]                          -- K must stand as «<heap const> w.params» for k_is
      refine' My.txt_mk ?e1 ?e2 ?e3 ..
      (case e1 => PySem.W.k_is)                    -- in the order: a name -> its address -> its object -> its parts
      (case e2 => PySem.W.k_is)
      ..
    obtain ⟨t, T⟩ := T
    have e0 := hmg.symm.trans (PySem.W.mg_of KX G T.law)
    cases e0                                       -- fa is the law's own address
    exact ⟨_, fun s u => .of_eq rfl, fun base kb nb => My.law_fn T kb nb⟩     -- if «.of_eq rfl» comes too early: refine' ⟨_, ?b, fun base kb nb => My.law_fn T kb nb⟩; exact fun s u => .of_eq rfl
  case S => exact fun w H a ns hl hO hS => ..
  case C => exact ..
(the tactic k_is has no namespace: write k_is) -/

/-! SHORT WORDS over the layer: a def of the text, its body, what a loop and a test want. -/
namespace L2
open PySem PySem.Spec PyProof.Rows

/-! ### the text by places -/
/-- the j-th statement of a class's body -/
def inClass (s : Stmt) (j : Nat) : Stmt := match s with
  | .ClassDef _ _ _ body _ _ _ _ _ _ _ => body.getD j (.Pass ⟨0, 0, 0, 0⟩)
  | _ => .Pass ⟨0, 0, 0, 0⟩
def defArgs (s : Stmt) : Arguments := match s with
  | .FunctionDef _ a _ _ _ _ _ _ _ _ => a
  | _ => { posonlyargs := [], args := [], vararg := none, kwonlyargs := [], kw_defaults := [], kwarg := none, defaults := [] }
def defBody (s : Stmt) : List Stmt := match s with
  | .FunctionDef _ _ b _ _ _ _ _ _ _ => b
  | _ => []
def defScope (s : Stmt) : Scope := match s with
  | .FunctionDef _ _ _ _ _ _ sc _ _ _ => sc
  | _ => { kind := .function, names := [], isGenerator := false, isCoroutine := false }

/-! ### no exception leaves a def -/
abbrev CX0 : CXT := fun _ _ _ _ _ _ => False
abbrev E0 : XK := fun _ _ _ => False
theorem pass0 {X : Cx} : Passes CX0 X E0 := fun _ _ _ _ _ _ _ h => h.elim

/-! ### a def (or method) of the text as it stands behind the top -/
structure Fun (K : PySem.W.Frag) (x qual : Str) (st : Stmt) (f : Addr) (fd : FuncData) : Prop where
  ex : ∃ (oc : Value) (od : Option Addr) (kV doc pm : Value) (an : Option Addr) (cdv ct : Value) (osl : Array (Option Value)),
    fd = PySem.W.fnOf x qual (defArgs st) (defBody st) (defScope st) .none kV doc pm an cdv ct ∧ K.lookup f = some ⟨oc, od, .func fd, osl⟩ ∧ PySem.W.codeIn K cdv qual = true
  kp : PySem.W.keepIn K (.ref f) = true
section
variable {P : Program} {w : World} {K : PySem.W.Frag} {mg : Str → Option Value} {base : Heap}
/-- THE RULE for a def: its body as a term of rules, and the reading of that term -/
theorem Fun.ok {x qual : Str} {st : Stmt} {f : Addr} {fd : FuncData} {N ps : List Str} {k : Nat} {sp : Sp} (F : Fun K x qual st f fd) (S : FnScope N ps (defScope st)) (len : ∀ vs H Q E, sp vs H Q E → vs.length = ps.length)
    (hbody : ∀ (cdv : Value) (A : Around) (outer : List Env) (s : Shared) (H : Hp) (vs : List V) (Q : VK) (E : XK), Room k (A.deeper (envOfC qual (defScope st) s.heap.objs.size f cdv)) → sp vs H Q E →
      ∃ t, PSs (cxOf CX0 P w K mg base N qual (defScope st) f cdv A outer s H E).nox (defBody st) t ∧ t { nx := fun _ H' => Q .non H', rt := Q } (start N vs) H) : FnOk P w K mg base CX0 (k + 1) f fd ps sp := by
  obtain ⟨oc, od, kV, doc, pm, an, cdv, ct, osl, rfl, lk, hcd⟩ := F.ex
  refine fn_of lk hcd S len fun A outer s H vs Q E hr hsp => ?_
  obtain ⟨t, h, q⟩ := hbody cdv A outer s H vs Q E hr hsp
  exact ⟨t, h.nox, q⟩
/-- how its arguments bind (no defaults): h is «fun _ _ _ _ _ _ us hl => match us, hl with | [_, _], _ => rfl», one _ a parameter -/
theorem Fun.binds {x qual : Str} {st : Stmt} {f : Addr} {fd : FuncData} {ps : List Str} (F : Fun K x qual st f fd)
    (h : ∀ (kV doc pm : Value) (an : Option Addr) (cdv ct : Value) (us : List Value), us.length = ps.length → bindArgs (PySem.W.fnOf x qual (defArgs st) (defBody st) (defScope st) .none kV doc pm an cdv ct) ⟨us, []⟩ = pure (ps.zip us)) : Binds K fd ps [] := by
  obtain ⟨oc, od, kV, doc, pm, an, cdv, ct, osl, rfl, lk, hcd⟩ := F.ex
  exact .all (h kV doc pm an cdv ct)
theorem fun_mk {x qual : Str} {st : Stmt} {f : Addr} {oc : Value} {od an : Option Addr} {osl : Array (Option Value)} {kV doc pm cdv ct : Value} (l : K.lookup f = some ⟨oc, od, .func (PySem.W.fnOf x qual (defArgs st) (defBody st) (defScope st) .none kV doc pm an cdv ct), osl⟩)
    (c : PySem.W.codeIn K cdv qual = true) (k : PySem.W.keepIn K (.ref f) = true) : Fun K x qual st f (PySem.W.fnOf x qual (defArgs st) (defBody st) (defScope st) .none kV doc pm an cdv ct) := ⟨⟨oc, od, kV, doc, pm, an, cdv, ct, osl, rfl, l, c⟩, k⟩
end
theorem hu_of {A : Around} {k : Nat} (hr : Room k A) : A.units + 1 < cLine := Nat.lt_of_le_of_lt (Nat.add_le_add_left (by decide : 1 ≤ 64) _) hr.units
theorem small1000 {n : Nat} (h : n ≤ 1000) : n < sizeLine := Nat.lt_of_le_of_lt h (by decide)

/-! ### expressions in short: the name that stands in the i-th slot -/
section
variable {X : Cx}
theorem pv (i : Nat) {x : Str} {pos : Pos} (hN : X.N[i]? = some x := by rfl) (hv : Vis X.env.scope x := by first | exact Or.inl rfl | exact Or.inr (Or.inl rfl) | exact Or.inr (Or.inr rfl)) (hd : (x == ("__debug__" : Str)) = false := by decide)
    (hcd : (x == ("__classdict__" : Str)) = false := by decide) : PE X (.Name x pos) (tVar i) := pe_var hN hv hd hcd
end

/-! ### tests -/
theorem iteF {A B : Prop} (h : B) : if false = true then A else B := by
  rw [if_neg Bool.false_ne_true]
  exact h
theorem iteT {A B : Prop} (h : A) : if true = true then A else B := by
  rw [if_pos rfl]
  exact h
theorem ite2 {c A B : Prop} [Decidable c] (h1 : c → A) (h2 : ¬ c → B) : if c then A else B := by
  by_cases h : c
  · rw [if_pos h]
    exact h1 h
  · rw [if_neg h]
    exact h2 h
theorem iteNS {c A B : Prop} [Decidable c] (hc : c) (h : B) : if (!decide c) = true then A else B := by
  rw [decide_eq_true hc]
  exact iteF h

/-! ### heaps -/
/-- all that was tracked is as it was -/
def Same (H H' : Hp) : Prop := ∀ b o, H b = some o → H' b = some o
theorem Same.refl (H : Hp) : Same H H := fun _ _ h => h
theorem Same.trans {H H1 H2 : Hp} (a : Same H H1) (b : Same H1 H2) : Same H H2 := fun c o h => b c o (a c o h)
theorem Same.free {H H' : Hp} (e : Same H H') {l : Addr} (h : H' l = Option.none) : H l = Option.none := by
  cases q : H l with
  | none => rfl
  | some o =>
    rw [e l o q] at h
    cases h
theorem Same.seq {K : PySem.W.Frag} {H H' : Hp} {a : Addr} {xs : List V} (e : Same H H') (h : SqL K H a xs) : SqL K H' a xs := by
  rcases h with (h | ⟨o, h⟩) | h
  · exact .inl (.inl (e _ _ h))
  · exact .inl (.inr ⟨o, e _ _ h⟩)
  · exact .inr h

/-! ### a dict's pairs: keys that differ -/
section
variable {κ : Type} [DecidableEq κ]
end
end L2

set_option Elab.async false
set_option linter.all false
set_option maxRecDepth 100000
set_option maxHeartbeats 4000000
namespace L2
open PySem PySem.Spec PyProof.Rows

theorem natlt {a n : Addr} (h : a < n) : @LT.lt Nat _ a n := h
/-! ### a comprehension's block -/
/-- the cells that a block takes along -/
def clOf (env : Env) : List (Str × NameKind) → List (Str × Addr) → List (Str × Addr)
  | [], acc => acc
  | (n, k) :: r, acc => if k == .free then clOf env r ((n, (env.cells.lookup n).getD 0) :: acc) else clOf env r acc
theorem closure_eq {env : Env} {scope : Scope} (h : ∀ y ∈ scope.names, y.2 = .free → (env.cells.lookup y.1).isSome = true) : closureFor scope env = pure (clOf env scope.names []) := by
  have go : ∀ (ns : List (Str × NameKind)) (acc : List (Str × Addr)), (∀ y ∈ ns, y.2 = .free → (env.cells.lookup y.1).isSome = true) →
      (forIn ns acc (fun x cs => match x with | (name, kind) => if (kind == .free) = true then do let c ← cellOf env name; pure (ForInStep.yield ((name, c) :: cs)) else pure (ForInStep.yield cs)) : Sem (List (Str × Addr))) = pure (clOf env ns acc) := by
    intro ns
    induction ns with
    | nil => intro acc _; rfl
    | cons y r ih =>
      intro acc hy
      obtain ⟨n, k⟩ := y
      rw [List.forIn_cons]
      by_cases hk : k = .free
      · subst hk
        have hs := hy (n, .free) List.mem_cons_self rfl
        obtain ⟨c, hc⟩ := Option.isSome_iff_exists.mp hs
        have e : cellOf env n = pure c := by unfold cellOf; rw [hc]
        show _ = pure (clOf env r ((n, (env.cells.lookup n).getD 0) :: acc))
        rw [← ih _ fun y hm => hy y (List.mem_cons_of_mem _ hm)]
        simp only [beq_self_eq_true, if_true, e, pure_bind, hc, Option.getD_some]
      · have hb : (k == NameKind.free) = false := by simpa using hk
        have hc : clOf env ((n, k) :: r) acc = clOf env r acc := by
          show (if (k == NameKind.free) = true then _ else _) = _
          rw [if_neg (by rw [hb]; decide)]
        rw [hc, ← ih _ fun y hm => hy y (List.mem_cons_of_mem _ hm)]
        simp only [hb, Bool.false_eq_true, if_false, pure_bind]
  have q := go scope.names [] h
  unfold closureFor
  show (forIn scope.names [] _ >>= fun r => pure r) = _
  rw [bind_pure]
  exact q
theorem clOf_lookup {env : Env} : ∀ (ns : List (Str × NameKind)) (acc : List (Str × Addr)) (x : Str), (∀ y ∈ ns, y.2 = .free → (env.cells.lookup y.1).isSome = true) →
    (clOf env ns acc).lookup x = if (x, NameKind.free) ∈ ns then env.cells.lookup x else acc.lookup x
  | [], acc, x, _ => by simp [clOf]
  | (n, k) :: r, acc, x, h => by
    have hr : ∀ y ∈ r, y.2 = .free → (env.cells.lookup y.1).isSome = true := fun y hm => h y (List.mem_cons_of_mem _ hm)
    by_cases hk : k = .free
    · subst hk
      show (clOf env r ((n, (env.cells.lookup n).getD 0) :: acc)).lookup x = _
      rw [clOf_lookup r _ x hr]
      obtain ⟨c, hc⟩ := Option.isSome_iff_exists.mp (h (n, .free) List.mem_cons_self rfl)
      have hc : env.cells.lookup n = some c := hc
      by_cases hm : (x, NameKind.free) ∈ r
      · rw [if_pos hm, if_pos (List.mem_cons_of_mem _ hm)]
      · rw [if_neg hm]
        by_cases e : x = n
        · subst e
          rw [if_pos List.mem_cons_self, List.lookup_cons, hc]
          simp
        · rw [if_neg (fun z => (List.mem_cons.mp z).elim (fun q => e (congrArg Prod.fst q)) hm), List.lookup_cons]
          have : (x == n) = false := by simpa using e
          rw [this]
    · have hb : (k == NameKind.free) = false := by simpa using hk
      have hc : clOf env ((n, k) :: r) acc = clOf env r acc := by
        show (if (k == NameKind.free) = true then _ else _) = _
        rw [if_neg (by rw [hb]; decide)]
      rw [hc, clOf_lookup r acc x hr]
      have : ((x, NameKind.free) ∈ (n, k) :: r) ↔ (x, NameKind.free) ∈ r := by
        constructor
        · intro z
          rcases List.mem_cons.mp z with q | q
          · exact absurd (congrArg Prod.snd q).symm hk
          · exact q
        · exact List.mem_cons_of_mem _
      simp only [this]

theorem relabel_lookup (env : Env) : ∀ (ns : List (Str × NameKind)) (x : Str),
    (ns.map fun (n, k) => if (k == .free && env.scope.kind == .function && env.kindOf n == some .cell) then (n, NameKind.cell) else (n, k)).lookup x =
      (ns.lookup x).map fun k => if (k == .free && env.scope.kind == .function && env.kindOf x == some .cell) = true then NameKind.cell else k
  | [], x => rfl
  | (n, k) :: r, x => by
    show List.lookup x ((if (k == NameKind.free && env.scope.kind == .function && env.kindOf n == some .cell) = true then (n, NameKind.cell) else (n, k)) :: _) = _
    cases hx : x == n with
    | true =>
      have e : x = n := by simpa using hx
      subst e
      by_cases hc : (k == NameKind.free && env.scope.kind == .function && env.kindOf x == some .cell) = true
      · rw [if_pos hc]; simp only [List.lookup_cons, hx, Option.map_some, if_pos hc]
      · rw [if_neg hc]; simp only [List.lookup_cons, hx, Option.map_some, if_neg hc]
    | false =>
      have ih := relabel_lookup env r x
      by_cases hc : (k == NameKind.free && env.scope.kind == .function && env.kindOf n == some .cell) = true
      · rw [if_pos hc]; simp only [List.lookup_cons, hx]; exact ih
      · rw [if_neg hc]; simp only [List.lookup_cons, hx]; exact ih

/-- the block's names: its own first, then those that it takes along: the outer names at the places caps -/
structure CompScope (N own : List Str) (caps : List Nat) (XN : List Str) (outer scope : Scope) : Prop where
  kind : scope.kind = .function
  nocell : ∀ y ∈ scope.names, y.2 ≠ .cell
  names : ∀ y ∈ scope.names, y.2 = .local → scope.names.lookup y.1 = some .local
  free : ∀ y ∈ scope.names, y.2 = .free → outer.names.lookup y.1 = some .cell ∨ outer.names.lookup y.1 = some .free
  nd : N.Nodup
  len : N.length = own.length + caps.length
  cap : ∀ (j : Nat), j < caps.length → N[own.length + j]? = XN[caps.getD j 0]? ∧ ∃ x, N[own.length + j]? = some x ∧ (x, NameKind.free) ∈ scope.names ∧ scope.names.lookup x = some .free

def st0 (own : List Str) (caps : List Nat) (σ : St) : St := own.map (fun _ => none) ++ caps.map (fun i => (σ[i]?).join)

def cxComp (X : Cx) (scope : Scope) (C : Addr) (N : List Str) (s : Shared) (H : Hp) (fp : List Addr) : Cx :=
  { X with N := N, s₀ := s, H₀ := H, env := compEnvC scope (clOf X.env scope.names []) C X.env, outer := X.stack, ex := fp, fn := fun _ => false, pn := [], xe := fun _ _ => False }

section
variable {X : Cx} {pins : List (Addr × Obj)} {σ : St} {H : Hp} {s : Shared} {scope : Scope} {N own : List Str} {caps : List Nat} {fp : List Addr} {C : Nat}
theorem CompScope.csome (S : CompScope N own caps X.N X.env.scope scope) (ok : X.Ok) : ∀ y ∈ scope.names, y.2 = .free → (X.env.cells.lookup y.1).isSome = true := fun y hy hf => by
  obtain ⟨c, e⟩ := ok.has y.1 (S.free y hy hf)
  rw [e]; rfl
theorem CompScope.csub (S : CompScope N own caps X.N X.env.scope scope) (ok : X.Ok) {x : Str} {c : Addr} (h : (clOf X.env scope.names []).lookup x = some c) : X.env.cells.lookup x = some c := by
  rw [clOf_lookup _ _ _ (S.csome ok)] at h
  split at h
  · exact h
  · simp at h
theorem CompScope.lookFree {S : CompScope N own caps X.N X.env.scope scope} {x : Str} (h : (relabel scope X.env).names.lookup x = some .cell ∨ (relabel scope X.env).names.lookup x = some .free) : (x, NameKind.free) ∈ scope.names := by
  have e := relabel_lookup X.env scope.names x
  have e' : (relabel scope X.env).names.lookup x = (scope.names.lookup x).map fun k => if (k == .free && X.env.scope.kind == .function && X.env.kindOf x == some .cell) = true then NameKind.cell else k := e
  rw [e'] at h
  cases q : scope.names.lookup x with
  | none => rw [q] at h; simp at h
  | some k =>
    have hm := PySem.mem_of_lookup q
    by_cases hk : k = .free
    · subst hk; exact hm
    · rw [q] at h
      have hb : (k == NameKind.free) = false := by simpa using hk
      simp only [Option.map_some, hb, Bool.false_and, Bool.false_eq_true, if_false] at h
      rcases h with h | h
      · exact absurd (Option.some.inj h) (S.nocell _ hm)
      · exact absurd (Option.some.inj h) hk

/-- the block's context is in order, and its names stand -/
theorem Inv.comp {h1 : Heap} {D : Nat} (I : Inv X pins σ H s) (S : CompScope N own caps X.N X.env.scope scope) (hfp : ∀ b ∈ fp, FpOk X pins H b) (hfo : ∀ b ∈ fp, ∃ o, s.heap.get? b = some o)
    (hD : D = s.heap.objs.size) (hC : C = s.heap.objs.size + 1) (old : ∀ b o, s.heap.get? b = some o → h1.get? b = some o) (hns : h1.Ns C (fun _ => none)) (hl : h1.get? D = some { cls := .type "list", data := .seq #[] }) {t : Nat} :
    Inv (cxComp X scope C N s H fp) [] (st0 own caps σ) (upd H D (.lst [])) { s with heap := h1, toks := t } := by
  have some' := S.csome I.ok
  have sub : ∀ {x c}, (clOf X.env scope.names []).lookup x = some c → X.env.cells.lookup x = some c := fun h => S.csub I.ok h
  have freshD : H D = none := I.hok.fresh (by rw [hD]; exact Nat.le_refl _)
  have freshC : H C = none := I.hok.fresh (by rw [hC]; exact Nat.le_succ _)
  have cellLt : ∀ x c, X.env.cells.lookup x = some c → c < s.heap.objs.size := fun x c e => by
    obtain ⟨v, z⟩ := I.cell x c e
    exact z.lt
  have fpLt : ∀ b ∈ fp, b < s.heap.objs.size := fun b hb => by
    obtain ⟨o, e⟩ := hfo b hb
    exact Heap.lt_size e
  have DC : D ≠ C := by omega
  refine ⟨⟨I.ok.mod, S.kind, I.ok.glob, I.ok.blt, by show s.heap.objs.size ≤ C; omega, fun x y c e1 e2 => I.ok.inj x y c (sub e1) (sub e2), fun x h => ?_, fun x c h => (by cases h), I.ok.hd, I.ok.frames, Or.inl rfl, fun b hb => ⟨?_, fun x c e => ?_⟩, I.bs, Nat.le_trans I.ok.bsz I.sz, fun b o e hb => ?_, fun b hb z => ?_, I.stack, I.stkFree⟩,
    rfl, I.bare, Un.laid old (by show s.heap.objs.size ≤ D; omega) freshD, ⟨_, hns, fun j x v e1 e2 e3 => ?_⟩, fun x c e => ?_, ?_, fun x c e => ?_, fun p hp => ?_, I.hok.laid old (by omega) ?_, ?_⟩
  · have hm := CompScope.lookFree (S := S) (X := X) h
    obtain ⟨c, e⟩ := Option.isSome_iff_exists.mp (some' _ hm rfl)
    exact ⟨c, by show (clOf X.env scope.names []).lookup x = _; rw [clOf_lookup _ _ _ some', if_pos hm]; exact e⟩
  · exact Nat.ne_of_lt (show @LT.lt Nat _ b C by have := natlt (fpLt b hb); omega)
  · exact (hfp b hb).2.2.2.2.1 x c (sub e)
  · rcases (hfp b hb).2.2.2.1 with z | z
    · exact I.ok.noex b o e z
    · exact absurd (Nat.lt_of_lt_of_le (Heap.lt_size e) (Nat.le_trans I.ok.bsz z)) (Nat.lt_irrefl _)
  · rcases List.mem_cons.mp (I.stkSub b z) with q | q
    · exact (hfp b hb).2.1 q
    · exact (hfp b hb).2.2.1 q
  · have e1 : N[j]? = some x := e1
    have hj : own.length ≤ j := by
      by_cases q : own.length ≤ j
      · exact q
      · exfalso
        unfold st0 at e2
        rw [List.getElem?_append_left (by simp; omega), List.getElem?_map] at e2
        cases r : own[j]? with
        | none => rw [r] at e2; cases e2
        | some a => rw [r] at e2; cases e2
    have hjl : j < N.length := (List.getElem?_eq_some_iff.mp e1).1
    have hjc : j - own.length < caps.length := by have := S.len; omega
    obtain ⟨c1, x', c2, c3, c4⟩ := S.cap (j - own.length) hjc
    rw [show own.length + (j - own.length) = j by omega] at c1 c2
    rw [e1] at c2
    cases c2
    have e2' : (σ[caps.getD (j - own.length) 0]?).join = some v := by
      unfold st0 at e2
      rw [List.getElem?_append_right (by simp; omega), List.getElem?_map, List.length_map] at e2
      rw [List.getD_eq_getElem?_getD]
      cases r : caps[j - own.length]? with
      | none => rw [r] at e2; cases e2
      | some a => rw [r] at e2; exact Option.some.inj e2
    have e2'' : σ[caps.getD (j - own.length) 0]? = some (some v) := by
      cases r : σ[caps.getD (j - own.length) 0]? with
      | none => rw [r] at e2'; cases e2'
      | some a => rw [r] at e2'; exact congrArg Option.some e2'
    have kx : X.env.kindOf x = some .cell ∨ X.env.kindOf x = some .free := S.free _ c3 rfl
    obtain ⟨m, hn, hl'⟩ := I.loc
    obtain ⟨u, r, l⟩ := hl' _ x v (by rw [← c1]; exact e1) e2'' (by rcases kx with z | z; exact .inr (.inl z); exact .inr (.inr z))
    refine ⟨u, r, .inr ⟨?_, ?_⟩⟩
    · show (relabel scope X.env).names.lookup x = some .cell ∨ (relabel scope X.env).names.lookup x = some .free
      have e : (relabel scope X.env).names.lookup x = (scope.names.lookup x).map fun k => if (k == .free && X.env.scope.kind == .function && X.env.kindOf x == some .cell) = true then NameKind.cell else k := relabel_lookup X.env scope.names x
      rw [e, c4, Option.map_some]
      split
      · exact .inl rfl
      · exact .inr rfl
    · rcases l with ⟨hk, _⟩ | ⟨_, c, hc, z⟩
      · rcases kx with q | q <;> rw [hk] at q <;> cases q
      · refine ⟨c, ?_, ?_⟩
        · show (clOf X.env scope.names []).lookup x = _
          rw [clOf_lookup _ _ _ some', if_pos c3]; exact hc
        · obtain ⟨o, ho, hd⟩ := z
          exact ⟨o, old c o ho, hd⟩
  · obtain ⟨v, o, ho, hd⟩ := I.cell x c (sub e)
    exact ⟨v, o, old c o ho, hd⟩
  · show upd H D (.lst []) C = none
    rw [upd_ne DC.symm]; exact freshC
  · show upd H D (.lst []) c = none
    rw [upd_ne (Nat.ne_of_lt (by have := natlt (cellLt x c (sub e)); omega))]; exact I.freeC x c (sub e)
  · cases hp
  · exact ⟨Nat.zero_le _, [], 0, .nil, hl⟩
  · show (own.map (fun _ => none) ++ caps.map _).length = N.length
    rw [List.length_append, List.length_map, List.length_map, S.len]

/-- behind the block -/
theorem Inv.uncomp {pins' : List (Addr × Obj)} {σ' : St} {H' : Hp} {s' : Shared} {h' : Heap} (I : Inv X pins σ H s) (hfp : ∀ b ∈ fp, FpOk X pins H b) (hC : s.heap.objs.size ≤ C) (J : Inv (cxComp X scope C N s H fp) pins' σ' H' s') (hs : Heap.SameBut C s'.heap h') :
    Inv X pins σ H' { s' with heap := h' } := by
  have nC : ∀ b o, s.heap.get? b = some o → b ≠ C := fun b o e => Nat.ne_of_lt (by have := natlt (Heap.lt_size e); omega)
  have u := J.base
  have frC : H' C = none := J.free
  refine I.call' (ch := fp) (s' := { s' with heap := h' }) J.os ⟨fun b o e n hb hx => ?_, fun b o e n hb hx => ?_, u.free, fun b o e hx => ?_, u.tups, u.frzs, u.tbls⟩ (fun a o e => (J.hok a o e).stay (fun b v hb q => ?_) (fun _ q => q) fun _ _ q => q) J.bare fun b hb => ?_
  · exact (hs.2 b (nC b o e)).trans (u.keep b o e n hb hx)
  · obtain ⟨sl, q⟩ := u.slot b o e n hb hx
    exact ⟨sl, (hs.2 b (nC b o e)).trans q⟩
  · obtain ⟨o', q⟩ := u.there b o e hx
    exact ⟨o', (hs.2 b (nC b o e)).trans q⟩
  · refine (hs.2 b ?_).trans q
    intro z
    subst z
    rcases hb with z | z
    · subst z; rw [frC] at e; cases e
    · rw [frC] at z; cases z
  · exact ⟨(hfp b hb).2.2.2.1, (hfp b hb).2.1, (hfp b hb).2.2.2.2.1, (hfp b hb).2.2.2.2.2⟩
end

section
variable {prog : Program} {w : World} {A : Around} {R : Result → Shared → Prop} {s : Shared}
theorem compLoop_any {elt target iter : Expr} {ifs : List Expr} {scope : Scope} {pos : Pos} {it acc : Value} {env : Env} (I : Nat → Shared → Prop)
    (turn : ∀ n s, I n s → wpAny (model prog w) A (pyNext it) (fun r s1 => match r with
      | none => R (.ok .next) s1
      | some v => wpAny (model prog w) A (letOwnedTupleGo target it v) (fun _ s1' => wpAny (model prog w) A (assign target env v) (fun _ s2 =>
          wpAny (model prog w) A (forIn ifs true fun c r => if r = true then do let ok ← isTrue c env (eval c env); pure (ForInStep.yield ok) else pure (ForInStep.yield r)) (fun ok s3 =>
            if ok = true then wpAny (model prog w) A (eval elt env) (fun x s4 =>
              wpAny (model prog w) A (call (.builtin "list.append") [acc, x]) (fun _ s5 => ∃ m, m < n ∧ I m s5) (fun _ _ => False) s4) (fun _ _ => False) s3
            else ∃ m, m < n ∧ I m s3) (fun _ _ => False) s2) (fun _ _ => False) s1') (fun _ _ => False) s1) (fun _ _ => False) s)
    (n : Nat) (h : I n s) :
    codeAny (model prog w) A (.compLoop (.ListComp elt [⟨target, iter, ifs, 0⟩] scope pos) 0 it acc env) R s := by
  refine codeAny_loop rfl I (fun n s hI => ?_) n h
  show wpAny _ A ((compTurn (.ListComp elt [⟨target, iter, ifs, 0⟩] scope pos) 0 it acc env).onRaise (fun x => do noteFrame x env; theTreesLotGoes x)) _ _ s
  refine wpAny_noted ?_
  rw [compTurn_list]
  refine wpAny_bind (wpAny_standAt (wpAny_bind (wpAny_mono (turn n s hI) (fun r s1 h1 => ?_) fun _ _ h' => h'.elim)))
  cases r with
  | none => exact wpAny_pure h1
  | some v =>
    refine wpAny_bind (wpAny_mono h1 (fun _ s1' h1' => ?_) fun _ _ h' => h'.elim)
    refine wpAny_bind (wpAny_mono h1' (fun _ s2 h2 => wpAny_bind (wpAny_mono h2 (fun ok s3 h3 => ?_) fun _ _ h' => h'.elim)) fun _ _ h' => h'.elim)
    cases ok with
    | false => exact wpAny_pure ⟨rfl, h3⟩
    | true =>
      exact wpAny_bind (wpAny_bind (wpAny_mono h3 (fun x s4 h4 => wpAny_bind (wpAny_mono h4 (fun _ s5 h5 => wpAny_pure (wpAny_pure ⟨rfl, h5⟩)) fun _ _ h' => h'.elim)) fun _ _ h' => h'.elim))
end

/-- the tests of a comprehension -/
def PTs (X : Cx) (ifs : List Expr) (t : TT) : Prop :=
  ∀ (pins : List (Addr × Obj)) (s : Shared) (σ : St) (H : Hp) (Q : Bool → Hp → Prop), Inv X pins σ H s → t σ H Q →
    wpAny (model X.prog X.w) X.A (forIn ifs true fun c r => if r = true then do let ok ← isTrue c X.env (eval c X.env); pure (ForInStep.yield ok) else pure (ForInStep.yield r)) (TP X pins σ Q) X.xe s
def tAll : TT := fun _ H Q => Q true H
theorem pts_nil {X : Cx} : PTs X [] tAll := fun _ _ _ H _ I h => wpAny_tests_nil ⟨H, I, h⟩
theorem pts_one {X : Cx} {c : Expr} {t : TT} (h : PT X c t) : PTs X [c] t := fun pins s σ H Q I q => wpAny_tests_one (h pins s σ H Q I q)

/-- [e for target in iter if c]: W between two turns; the list grows at D; N: what the turn is to reach -/
def CompW (J : It) (g : TG) (tc : TT) (te : TE) (Q : VK) (D : Addr) (σ0 : St) (H1 : Hp) : Prop :=
  ∃ W : Nat → Nat → St → Hp → Prop, (∃ m, W 0 m σ0 (upd H1 D (.lst []))) ∧ ∀ i m σ H, W i m σ H →
    (J.stop i H ∧ Q (.ref D) H) ∨ (J.go i H ∧ ∃ N : St → Hp → Prop, (∀ σ' H', N σ' H' → ∃ m', m' < m ∧ W (i + 1) m' σ' H') ∧ ∀ x H', J.yld i H x H' → g x σ H' fun σ2 H2 => tc σ2 H2 fun b H3 =>
      if b = true then te σ2 H3 fun y H4 => ∃ acc, H4 D = some (.lst acc) ∧ acc.length < sizeLine ∧ N σ2 (upd H4 D (.lst (acc ++ [y]))) else N σ2 H3)
def tComp (own : List Str) (caps : List Nat) (wi : TI) (g : TG) (tc : TT) (te : TE) : TE := fun σ H Q => wi σ H fun J H1 => ∀ D, H1 D = none → CompW J g tc te Q D (st0 own caps σ) H1

section
variable {X : Cx} {elt tg iter : Expr} {ifs : List Expr} {scope : Scope} {pos : Pos} {N own : List Str} {caps : List Nat} {wi : TI} {g : TG} {tc : TT} {te : TE}
/-- the block run: from the iterator to the list -/
theorem comp_run {use : Option (Value → Sem Unit)} {Qv : Value → Shared → Prop} {pins : List (Addr × Obj)} {σ : St} {H : Hp} {s : Shared} {Q : VK} (hc : X.calm = true) (S : CompScope N own caps X.N X.env.scope scope)
    (hg : ∀ C s H fp, PG (cxComp X scope C N s H fp) tg g) (hcs : ∀ C s H fp, PTs (cxComp X scope C N s H fp) ifs tc) (he : ∀ C s H fp, PE (cxComp X scope C N s H fp) elt te)
    (hi : PI X tg iter wi) (hs : ∀ x, foldedSetIterable iter X.env x = pure x)
    (I : Inv X pins σ H s) (h : tComp own caps wi g tc te σ H Q)
    (fin : ∀ (D C : Addr) (H' : Hp) (s' : Shared), (∃ m, s'.heap.Ns C m) → Inv X pins σ H' s' → (∀ h', Heap.SameBut C s'.heap h' → Inv X pins σ H' { s' with heap := h' }) → FpOk X pins H' C → Q (.ref D) H' →
      compPost (model X.prog X.w) X.A X.xe use Qv (.ref D) C (.ok .next) s') :
    wpAny (model X.prog X.w) X.A (comprehension (.ListComp elt [⟨tg, iter, ifs, 0⟩] scope pos) scope X.env (firstIterPos [⟨tg, iter, ifs, 0⟩] pos) (newList []) false (eval iter X.env) use) Qv X.xe s := by
  refine wpAny_comprehension_free (use := use) rfl hs (closure_eq (S.csome I.ok)) S.kind S.names (thn (hi pins s σ H _ I h) fun xv s1 h1 => thn h1 fun itv s2 h2 => ?_)
  obtain ⟨it, fp, tn, J, H2, e, I2, T, st2, f2, q2⟩ := h2
  subst e
  refine wpAny_newList ?_
  refine wpAny_newFunctionEnv S.nocell (by intro y hy; simp at hy) (fun h1 hns1 hsb1 => ?_) S.kind
  dsimp only at hns1 hsb1 ⊢
  have hD : H2 s2.heap.objs.size = none := I2.hok.fresh (Nat.le_refl _)
  have hsz : (s2.heap.push { cls := .type "list", data := .seq ([] : List Value).toArray }).objs.size = s2.heap.objs.size + 1 := Heap.size_push ..
  have old : ∀ b o, s2.heap.get? b = some o → h1.get? b = some o := fun b o e => by
    refine hsb1.extBut b o (Nat.ne_of_lt (by have := natlt (Heap.lt_size e); rw [hsz]; omega)) (Heap.get?_push_of_some _ (Heap.get?_push_of_some _ e))
  have hl : h1.get? s2.heap.objs.size = some { cls := .type "list", data := .seq #[] } :=
    hsb1.extBut _ _ (Nat.ne_of_lt (by rw [hsz]; omega)) (Heap.get?_push_of_some _ (Heap.get?_push_size _ rfl))
  have hfo : ∀ b ∈ fp, ∃ o, s2.heap.get? b = some o := fun b hb => let ⟨o, e, _⟩ := T.obj _ _ st2 b hb; ⟨o, e⟩
  have I4 := Inv.comp (C := (s2.heap.push { cls := .type "list", data := .seq ([] : List Value).toArray }).objs.size) (t := s2.toks + ([] : List (Str × Value)).length) I2 S f2 hfo rfl hsz old hns1 hl
  obtain ⟨W, ⟨m0, w0⟩, turn⟩ := q2 _ hD
  generalize hCe : (s2.heap.push { cls := .type "list", data := .seq ([] : List Value).toArray }).objs.size = C at *
  generalize hDe : s2.heap.objs.size = D at *
  have hDC : D ≠ C := by omega
  -- the loop
  have loop : ∀ s3 : Shared, s3 = { s2 with heap := h1, toks := s2.toks + ([] : List (Str × Value)).length } →
      codeAny (model X.prog X.w) X.A (.compLoop (.ListComp elt [⟨tg, iter, ifs, 0⟩] scope pos) 0 (.ref it) (.ref D) (cxComp X scope C N s2 H2 fp).env) (compPost (model X.prog X.w) X.A X.xe use Qv (.ref D) C) s3 := by
    rintro s3 rfl
    have frz : ∀ b ∈ fp, (upd H2 D (.lst [])) b = none := fun b hb => by
      obtain ⟨o, e⟩ := hfo b hb
      rw [upd_ne (Nat.ne_of_lt (by have := natlt (Heap.lt_size e); omega))]
      exact (f2 b hb).1
    have stat : ∀ {H' : Hp}, (∀ b ∈ fp, H' b = none) → ∀ b ∈ fp, FpOk (cxComp X scope C N s2 H2 fp) [] H' b := fun hn b hb => by
      obtain ⟨o, e⟩ := hfo b hb
      have hlt := natlt (Heap.lt_size e)
      refine ⟨hn b hb, ?_, fun z => ?_, .inl hb, fun x c e' => (f2 b hb).2.2.2.2.1 x c (S.csub I2.ok e'), fun p hp => (by cases hp)⟩
      · exact Nat.ne_of_lt (show @LT.lt Nat _ b C by omega)
      · rcases List.mem_cons.mp (I2.stkSub b z) with q | q
        · exact (f2 b hb).2.1 q
        · exact (f2 b hb).2.2.1 q
    refine compLoop_any (fun n s' => ∃ i σ' H', Inv (cxComp X scope C N s2 H2 fp) [] σ' H' s' ∧ tn i s'.heap ∧ (∀ b ∈ fp, H' b = none) ∧ W i n σ' H') ?_ m0
      ⟨0, _, _, I4, T.keep _ _ _ st2 fun b _ o e => old b o e, frz, w0⟩
    rintro n s3 ⟨i, σ3, H3, I3, st3, fr3, w3⟩
    rcases turn i n σ3 H3 w3 with ⟨stop, qn⟩ | ⟨go, Nx, hNx, step⟩
    · refine thn (T.done (cxComp X scope C N s2 H2 fp) rfl rfl rfl hc i [] s3 σ3 H3 _ I3 (stat fr3) st3 stop) fun r s4 ⟨hr, J4⟩ => ?_
      subst hr
      obtain ⟨m4, hn4, _⟩ := J4.loc
      exact fin D C H3 s4 ⟨m4, hn4⟩ (I2.uncomp f2 (by omega) J4 (Heap.SameBut.refl _ _)) (fun h' hs' => I2.uncomp f2 (by omega) J4 hs') (I2.fpOk (show s2.heap.objs.size ≤ C by omega) J4.free) qn
    · refine thn (T.item (cxComp X scope C N s2 H2 fp) rfl rfl rfl hc i [] s3 σ3 H3 _ I3 (stat fr3) st3 go) fun r s4 ⟨u, hr, h4⟩ => ?_
      subst hr
      refine thn h4 fun _ s5 ⟨x, H5, I5, r5, y5, st5, fr5⟩ => ?_
      have I5' := I5.pinned (stat fr5) (T.obj _ _ st5)
      refine thn (hg C s2 H2 fp _ s5 σ3 H5 x u _ I5' r5 (step x H5 y5)) fun _ s6 ⟨σ6, H6, I6, q6⟩ => ?_
      refine thn (hcs C s2 H2 fp _ s6 σ6 H6 _ I6 q6) fun ok s7 ⟨H7, I7, q7⟩ => ?_
      have again : ∀ {σ8 : St} {H8 : Hp} {s8 : Shared}, Inv (cxComp X scope C N s2 H2 fp) ([] ++ pinsAt fp s5.heap) σ8 H8 s8 → Nx σ8 H8 → ∃ m, m < n ∧ ∃ i σ' H', Inv (cxComp X scope C N s2 H2 fp) [] σ' H' s8 ∧ tn i s8.heap ∧ (∀ b ∈ fp, H' b = none) ∧ W i m σ' H' := fun {σ8 H8 s8} I8 n8 => by
        obtain ⟨m', hm, w8⟩ := hNx _ _ n8
        refine ⟨m', hm, i + 1, σ8, H8, I8.unpinned, T.keep _ _ _ st5 fun b hb o e => (I8.pin (b, o) (List.mem_append_right _ (List.mem_append_right _ (mem_pinsAt hb e)))).1, fun b hb => ?_, w8⟩
        obtain ⟨o, e, d⟩ := T.obj _ _ st5 b hb
        exact (I8.pin (b, o) (List.mem_append_right _ (List.mem_append_right _ (mem_pinsAt hb e)))).2.1
      cases ok with
      | false =>
        rw [if_neg (by decide)] at q7
        exact again I7 q7
      | true =>
        rw [if_pos rfl] at q7
        refine thn (he C s2 H2 fp _ s7 σ6 H7 _ I7 q7) fun y s8 ⟨yv, H8, I8, r8, acc, ha, hlen, q8⟩ => ?_
        exact thn (mt_append _ s8 σ6 H8 (.ref D) [yv] (.ref D) [y] (fun v H9 => Nx σ6 H9) I8 rfl (.cons r8 .nil) ⟨D, acc, yv, rfl, rfl, ha, hlen, q8⟩) fun _ s9 ⟨_, H9, I9, _, q9⟩ => again I9 q9
  exact codeAny_compStart_list (loop _ rfl) (T.self _ 0 _ _ _ (T.keep _ _ _ st2 fun b _ o e => old b o e) (loop _ rfl))

theorem pe_comp (hc : X.calm = true) (S : CompScope N own caps X.N X.env.scope scope) (hi : PI X tg iter wi)
    (hg : ∀ C s H fp, PG (cxComp X scope C N s H fp) tg g) (hcs : ∀ C s H fp, PTs (cxComp X scope C N s H fp) ifs tc) (he : ∀ C s H fp, PE (cxComp X scope C N s H fp) elt te)
    (hs : ∀ x, foldedSetIterable iter X.env x = pure x := by intro _; rfl) : PE X (.ListComp elt [⟨tg, iter, ifs, 0⟩] scope pos) (tComp own caps wi g tc te) := by
  intro pins s σ H Q I h
  rw [eval_ListComp]
  refine comp_run (use := none) hc S hg hcs he hi hs I h ?_
  intro D C H' s' hn I' hk _ q
  obtain ⟨m, hn⟩ := hn
  exact ⟨m, hn, fun h' hs' => ⟨.ref D, H', hk h' hs', rfl, q⟩⟩
/-- x = [e for ..] on one row: the name is stored ahead of the block's names being let go -/
theorem ps_setC {i : Nat} {x : Str} {px sp : Pos} (hc : X.calm = true) (hN : X.N.Nodup) (hx : X.N[i]? = some x) (hl : Loc X.env.scope x) (S : CompScope N own caps X.N X.env.scope scope) (hi : PI X tg iter wi)
    (hg : ∀ C s H fp, PG (cxComp X scope C N s H fp) tg g) (hcs : ∀ C s H fp, PTs (cxComp X scope C N s H fp) ifs tc) (he : ∀ C s H fp, PE (cxComp X scope C N s H fp) elt te)
    (hsw : swapsWith (.ListComp elt [⟨tg, iter, ifs, 0⟩] scope pos) (some (.Name x px)) sp.line X.env = pure true := by rfl)
    (hs : ∀ x, foldedSetIterable iter X.env x = pure x := by intro _; rfl) (hf : X.fn x = true ∨ X.env.scope.names.lookup x = some .local := by first | exact .inl rfl | exact .inr rfl | assumption) :
    PS X (.Assign [.Name x px] (.ListComp elt [⟨tg, iter, ifs, 0⟩] scope pos) sp) (tAsg (tComp own caps wi g tc te) (gName i)) := by
  intro pins s σ H D I h
  rw [exec_Assign_Name_used _ _ _ _ hsw]
  refine wpAny_bind (wpAny_standAt (wpAny_bind ?_))
  show wpAny _ X.A (do let _ ← comprehension (.ListComp elt [⟨tg, iter, ifs, 0⟩] scope pos) scope X.env (firstIterPos [⟨tg, iter, ifs, 0⟩] pos) (newList []) false (eval iter X.env) (some (assign (.Name x px) X.env))) _ _ s
  refine wpAny_bind (wpAny_mono (comp_run (use := some (assign (.Name x px) X.env)) (Qv := fun _ s' => SP X pins D .next s') hc S hg hcs he hi hs I h ?_) (fun _ s' hq => wpAny_pure (wpAny_pure hq)) fun _ _ e => e)
  intro E C H' s' hn I' hk fC q
  obtain ⟨m, hn⟩ := hn
  obtain ⟨f0, f1, f2, f3, f4, f5⟩ := fC
  show wpAny _ X.A (assign (.Name x px) X.env (.ref E)) _ _ _
  refine wpAny_assign_Name (store_ok2 I' hN hx hl (v := .ref E) rfl (fun s2 I2 k => ?_) hf)
  refine ⟨m, ?_, fun h' hs' => ?_⟩
  · obtain ⟨o, es, ep, ho, r⟩ := hn
    obtain ⟨a, ks, ka⟩ := k
    have hCa : C ≠ a := fun z => by
      rcases ka with q' | q'
      · exact f1 (z.trans q')
      · exact f4 x a q' z.symm
    exact ⟨o, es, ep, (ks.2 C hCa).trans ho, r⟩
  · exact ⟨_, H', I2.turned (t' := s2.toks) (fun b o hb e => (hs'.2 b hb).trans e) f0 f1 f3 f4 f5, q⟩
end
/-- the names of a block, checked -/
def compOk (N own : List Str) (caps : List Nat) (XN : List Str) (outer scope : Scope) : Bool :=
  decide (scope.kind = .function) && scope.names.all (fun y => decide (y.2 ≠ .cell)) && scope.names.all (fun y => decide (y.2 ≠ .local) || decide (scope.names.lookup y.1 = some .local)) &&
  scope.names.all (fun y => decide (y.2 ≠ .free) || decide (outer.names.lookup y.1 = some .cell) || decide (outer.names.lookup y.1 = some .free)) && decide N.Nodup && decide (N.length = own.length + caps.length) &&
  (List.range caps.length).all (fun j => match N[own.length + j]? with | some x => decide (XN[caps.getD j 0]? = some x) && decide ((x, NameKind.free) ∈ scope.names) && decide (scope.names.lookup x = some .free) | none => false)
theorem CompScope.of {N own : List Str} {caps : List Nat} {XN : List Str} {outer scope : Scope} (h : compOk N own caps XN outer scope = true) : CompScope N own caps XN outer scope := by
  unfold compOk at h
  simp only [Bool.and_eq_true, decide_eq_true_eq, List.all_eq_true, Bool.or_eq_true] at h
  obtain ⟨⟨⟨⟨⟨⟨h1, h2⟩, h3⟩, h4⟩, h5⟩, h6⟩, h7⟩ := h
  refine ⟨h1, h2, fun y hy e => ?_, fun y hy e => ?_, h5, h6, fun j hj => ?_⟩
  · rcases h3 y hy with z | z
    · exact absurd e z
    · exact z
  · rcases h4 y hy with (z | z) | z
    · exact absurd e z
    · exact .inl z
    · exact .inr z
  · have q := h7 j (List.mem_range.mpr hj)
    cases e : N[own.length + j]? with
    | none => rw [e] at q; cases q
    | some x =>
      rw [e] at q
      simp only [Bool.and_eq_true, decide_eq_true_eq] at q
      exact ⟨q.1.1.symm, x, rfl, q.1.2, q.2⟩
end L2
set_option Elab.async false
set_option linter.all false
set_option maxRecDepth 100000
set_option maxHeartbeats 4000000
namespace L2
open PySem PySem.Spec PyProof.Rows

/-! ### plain data at a heap -/
mutual
def Dat (H : Hp) : V → PyData → Prop
  | v, .none => v = .non
  | v, .bool b => v = .bl b
  | v, .int i => v = .int i
  | v, .str x => v = .str x
  | v, .list ds => ∃ a vs, v = .ref a ∧ H a = some (.lst vs) ∧ Dats H vs ds
  | v, .tuple ds => ∃ a vs, v = .ref a ∧ H a = some (.tup vs) ∧ Dats H vs ds
  | _, .dict _ => False
def Dats (H : Hp) : List V → List PyData → Prop
  | [], [] => True
  | v :: vs, d :: ds => Dat H v d ∧ Dats H vs ds
  | [], _ :: _ => False
  | _ :: _, [] => False
end
section
variable {H H' : Hp}
theorem Dats.length : ∀ {vs : List V} {ds : List PyData}, Dats H vs ds → vs.length = ds.length
  | [], [], _ => rfl
  | _ :: _, _ :: _, h => by simp only [Dats] at h; simp [Dats.length h.2]
  | [], _ :: _, h => by simp only [Dats] at h
  | _ :: _, [], h => by simp only [Dats] at h
theorem Dats.get : ∀ {vs : List V} {ds : List PyData} {i : Nat} {v : V}, Dats H vs ds → vs[i]? = some v → ∃ d, ds[i]? = some d ∧ Dat H v d
  | _ :: _, _ :: _, 0, _, h, e => by simp only [Dats] at h; simp at e; subst e; exact ⟨_, rfl, h.1⟩
  | _ :: _, _ :: _, i + 1, _, h, e => by simp only [Dats] at h; simp at e; obtain ⟨d, q, r⟩ := Dats.get h.2 e; exact ⟨d, by simpa using q, r⟩
  | [], [], _, _, _, e => by simp at e
  | [], _ :: _, _, _, h, _ => by simp only [Dats] at h
  | _ :: _, [], _, _, h, _ => by simp only [Dats] at h
theorem Dats.getD : ∀ {vs : List V} {ds : List PyData} {i : Nat} {d : PyData}, Dats H vs ds → ds[i]? = some d → ∃ v, vs[i]? = some v ∧ Dat H v d
  | _ :: _, _ :: _, 0, _, h, e => by simp only [Dats] at h; simp at e; subst e; exact ⟨_, rfl, h.1⟩
  | _ :: _, _ :: _, i + 1, _, h, e => by simp only [Dats] at h; simp at e; obtain ⟨d, q, r⟩ := Dats.getD h.2 e; exact ⟨d, by simpa using q, r⟩
  | [], [], _, _, _, e => by simp at e
  | [], _ :: _, _, _, h, _ => by simp only [Dats] at h
  | _ :: _, [], _, _, h, _ => by simp only [Dats] at h
theorem Dats.append : ∀ {vs ws : List V} {ds es : List PyData}, Dats H vs ds → Dats H ws es → Dats H (vs ++ ws) (ds ++ es)
  | [], _, [], _, _, g => g
  | _ :: _, _, _ :: _, _, h, g => by simp only [Dats, List.cons_append] at h ⊢; exact ⟨h.1, Dats.append h.2 g⟩
  | [], _, _ :: _, _, h, _ => by simp only [Dats] at h
  | _ :: _, _, [], _, h, _ => by simp only [Dats] at h
theorem Dats.ints (ns : List Int) : Dats H (ns.map V.int) (ns.map PyData.int) := by
  induction ns with
  | nil => simp only [List.map_nil, Dats]
  | cons n r ih => simp only [List.map_cons, Dats, Dat]; exact ⟨trivial, ih⟩
mutual
theorem Dat.mono (hl : ∀ a xs, H a = some (HO.lst xs) → H' a = some (HO.lst xs)) (ht : ∀ a xs, H a = some (HO.tup xs) → H' a = some (HO.tup xs)) : ∀ (d : PyData) {v : V}, Dat H v d → Dat H' v d
  | .none, _, h => by simp only [Dat] at h ⊢; exact h
  | .bool _, _, h => by simp only [Dat] at h ⊢; exact h
  | .int _, _, h => by simp only [Dat] at h ⊢; exact h
  | .str _, _, h => by simp only [Dat] at h ⊢; exact h
  | .list ds, _, h => by simp only [Dat] at h ⊢; obtain ⟨a, vs, e, q, r⟩ := h; exact ⟨a, vs, e, hl _ _ q, Dats.mono hl ht ds r⟩
  | .tuple ds, _, h => by simp only [Dat] at h ⊢; obtain ⟨a, vs, e, q, r⟩ := h; exact ⟨a, vs, e, ht _ _ q, Dats.mono hl ht ds r⟩
  | .dict _, _, h => by simp only [Dat] at h
theorem Dats.mono (hl : ∀ a xs, H a = some (HO.lst xs) → H' a = some (HO.lst xs)) (ht : ∀ a xs, H a = some (HO.tup xs) → H' a = some (HO.tup xs)) : ∀ (ds : List PyData) {vs : List V}, Dats H vs ds → Dats H' vs ds
  | [], [], _ => by simp only [Dats]
  | d :: ds, v :: vs, h => by simp only [Dats] at h ⊢; exact ⟨Dat.mono hl ht d h.1, Dats.mono hl ht ds h.2⟩
  | _ :: _, [], h => by simp only [Dats] at h
  | [], _ :: _, h => by simp only [Dats] at h
end
mutual
/-- no list within -/
def imm : PyData → Bool
  | .tuple ds => imms ds
  | .list _ | .dict _ => false
  | .none | .bool _ | .int _ | .str _ => true
def imms : List PyData → Bool
  | [] => true
  | d :: ds => imm d && imms ds
end
mutual
theorem Dat.keep (ht : ∀ a xs, H a = some (HO.tup xs) → H' a = some (HO.tup xs)) : ∀ (d : PyData) {v : V}, imm d = true → Dat H v d → Dat H' v d
  | .none, _, _, h => by simp only [Dat] at h ⊢; exact h
  | .bool _, _, _, h => by simp only [Dat] at h ⊢; exact h
  | .int _, _, _, h => by simp only [Dat] at h ⊢; exact h
  | .str _, _, _, h => by simp only [Dat] at h ⊢; exact h
  | .list ds, _, i, h => by simp only [imm] at i; cases i
  | .tuple ds, _, i, h => by simp only [Dat] at h ⊢; simp only [imm] at i; obtain ⟨a, vs, e, q, r⟩ := h; exact ⟨a, vs, e, ht _ _ q, Dats.keep ht ds i r⟩
  | .dict _, _, _, h => by simp only [Dat] at h
theorem Dats.keep (ht : ∀ a xs, H a = some (HO.tup xs) → H' a = some (HO.tup xs)) : ∀ (ds : List PyData) {vs : List V}, imms ds = true → Dats H vs ds → Dats H' vs ds
  | [], [], _, _ => by simp only [Dats]
  | d :: ds, v :: vs, i, h => by simp only [Dats] at h ⊢; simp only [imms, Bool.and_eq_true] at i; exact ⟨Dat.keep ht d i.1 h.1, Dats.keep ht ds i.2 h.2⟩
  | _ :: _, [], _, h => by simp only [Dats] at h
  | [], _ :: _, _, h => by simp only [Dats] at h
end
theorem imms_map {α : Type} (f : α → PyData) (h : ∀ x, imm (f x) = true) : ∀ l : List α, imms (l.map f) = true
  | [] => rfl
  | a :: l => by simp only [List.map_cons, imms, h a, imms_map f h l, Bool.and_self]
end

section
variable {X : Cx} {pins : List (Addr × Obj)} {σ : St} {H : Hp} {s : Shared}
mutual
theorem Inv.reads (I : Inv X pins σ H s) : ∀ (d : PyData) {v : V} {u : Value}, Dat H v d → RelV v u → ∃ as, Reads s.heap u d as
  | .none, v, u, h, r => by
    simp only [Dat] at h; subst h; cases (show u = Value.none from r); exact ⟨_, .none⟩
  | .bool b, v, u, h, r => by
    simp only [Dat] at h; subst h; cases (show u = Value.bool b from r); exact ⟨_, .bool b⟩
  | .int i, v, u, h, r => by
    simp only [Dat] at h; subst h; obtain ⟨t, q⟩ := (show ∃ t, u = Value.int i t from r); cases q; exact ⟨_, .int i t⟩
  | .str x, v, u, h, r => by
    simp only [Dat] at h; subst h; obtain ⟨t, q⟩ := (show ∃ t, u = Value.str x t from r); cases q; exact ⟨_, .str x t⟩
  | .list ds, v, u, h, r => by
    simp only [Dat] at h
    obtain ⟨a, vs, rfl, q, g⟩ := h
    cases (show u = Value.ref a from r)
    obtain ⟨its, rv, p, hz⟩ := I.list (SqL.of q)
    obtain ⟨o, ho, hc, n, hd⟩ := p.isList
    obtain ⟨as, ra⟩ := Inv.readsAll I ds g rv
    exact ⟨_, .list ho hc hd (by simpa using ra)⟩
  | .tuple ds, v, u, h, r => by
    simp only [Dat] at h
    obtain ⟨a, vs, rfl, q, g⟩ := h
    cases (show u = Value.ref a from r)
    obtain ⟨its, rv, p, hz⟩ := I.tuple (SqT.of q)
    obtain ⟨o, ho, hc, n, hd⟩ := p
    obtain ⟨as, ra⟩ := Inv.readsAll I ds g rv
    exact ⟨_, .tuple ho hc hd (by simpa using ra)⟩
  | .dict _, _, _, h, _ => by simp only [Dat] at h
theorem Inv.readsAll (I : Inv X pins σ H s) : ∀ (ds : List PyData) {vs : List V} {us : List Value}, Dats H vs ds → Vals vs us → ∃ as, ReadsAll s.heap us ds as
  | [], [], _, _, .nil => ⟨_, .nil⟩
  | d :: ds, v :: vs, _, h, .cons r rs => by
    simp only [Dats] at h
    obtain ⟨as, ra⟩ := Inv.reads I d h.1 r
    obtain ⟨bs, rb⟩ := Inv.readsAll I ds h.2 rs
    exact ⟨_, .cons ra rb⟩
  | _ :: _, [], _, h, _ => by simp only [Dats] at h
  | [], _ :: _, _, h, _ => by simp only [Dats] at h
end
/-- == and != of data -/
def rEqD (neg : Bool) : R2 := fun x y H Q => ∃ d e, Dat H x d ∧ Dat H y e ∧ SeqAt.shaped d = true ∧ SeqAt.shaped e = true ∧ Q (.bl (if neg then !PyData.eqv d e else PyData.eqv d e)) H
theorem op_eqD (hu : X.A.units + 64 < cLine) : OpR X (compareOp .Eq) (rEqD false) := by
  intro pins s σ H x y v u Q I rx ry h
  obtain ⟨d, e, h1, h2, s1, s2, q⟩ := h
  obtain ⟨as, ra⟩ := I.reads d h1 rx
  obtain ⟨bs, rb⟩ := I.reads e h2 ry
  exact SeqAt.compareEq_shaped ra rb s1 s2 hu ⟨.bl _, H, I, rfl, q⟩
theorem op_neD (hu : X.A.units + 64 < cLine) : OpR X (compareOp .NotEq) (rEqD true) := by
  intro pins s σ H x y v u Q I rx ry h
  obtain ⟨d, e, h1, h2, s1, s2, q⟩ := h
  obtain ⟨as, ra⟩ := I.reads d h1 rx
  obtain ⟨bs, rb⟩ := I.reads e h2 ry
  exact SeqAt.compareNe_shaped ra rb s1 s2 hu ⟨.bl _, H, I, rfl, q⟩

/-! ### isinstance -/
/-- isinstance(x, c): c's value is known -/
theorem call_isi {c : Value} {cv : V} (rc : RelV cv c) : CallR X (.builtin "isinstance") (fun xs H Q => ∃ x t b, xs = [x, cv] ∧ TyOf X.K H x t ∧ PySem.W.kitOne X.K t c = some b ∧ Q (.bl b) H) := by
  intro pins s σ H xs us Q I r h
  obtain ⟨x, t, b, rfl, ty, e, q⟩ := h
  obtain ⟨u, w', rfl, r1, r2⟩ := vals2 r
  have : w' = c := by
    cases cv with
    | non => exact (show w' = Value.none from r2).trans (show c = Value.none from rc).symm
    | bl b => exact (show w' = Value.bool b from r2).trans (show c = Value.bool b from rc).symm
    | ref a => exact (show w' = Value.ref a from r2).trans (show c = Value.ref a from rc).symm
    | ty n => exact (show w' = Value.type n from r2).trans (show c = Value.type n from rc).symm
    | int i => obtain ⟨t1, rfl⟩ := (show ∃ t, c = Value.int i t from rc); unfold PySem.W.kitOne at e; exact absurd e (by cases ty <;> simp [PySem.W.kitCls])
    | str i => obtain ⟨t1, rfl⟩ := (show ∃ t, c = Value.str i t from rc); unfold PySem.W.kitOne at e; exact absurd e (by cases ty <;> simp [PySem.W.kitCls])
    | byt i => obtain ⟨t1, rfl⟩ := (show ∃ t, c = Value.bytes i t from rc); unfold PySem.W.kitOne at e; exact absurd e (by cases ty <;> simp [PySem.W.kitCls])
    | flt i => obtain ⟨t1, rfl⟩ := (show ∃ t, c = Value.float i t from rc); unfold PySem.W.kitOne at e; exact absurd e (by cases ty <;> simp [PySem.W.kitCls])
  subst this
  exact isinst_ok I r1 ty e fun tk => ⟨.bl b, H, I.tok _, rfl, q⟩
end

/-! ### all, any over a list of bools -/
section
variable {prog : Program} {w : World} {A : Around}
theorem walks_list (hh : A.handled = none) (it a : Addr) (hne : it ≠ a) (its : List Value) : Walks prog w A it [it, a] [it] its.length (fun i v => its[i]? = some v) (fun i h => h.IsListIter it a i ∧ h.IsList a its.toArray) where
  sub := by simp
  frame := fun i h h' ⟨s1, o, ho, hc⟩ k => ⟨s1.at fun o e => k it (by simp) o e, o, k a (by simp) o ho, hc⟩
  item := fun i s Q E hi ⟨s1, s2⟩ hQ => wpAny_pyNext_list_item s1 s2 (x := its[i]) (by simp [hi]) fun h' st' sb =>
    hQ _ h' s.toks (by simp [hi]) ⟨st', s2.extBut sb.extBut hne.symm⟩ fun b o hb e => (sb.2 b (by simpa using hb)).trans e
  done := fun s Q E ⟨s1, s2⟩ hQ => wpAny_pyNext_list_end hh s1 s2 (by simp) fun h' eb => hQ h' s.toks fun b o hb e => eb b o (by simpa using hb) e
  self := fun i s Q E ⟨s1, _⟩ hQ => wpAny_pyIter_listiter s1 hQ
end
section
variable {X : Cx}
theorem range_all_get (bs : List Bool) : (List.range bs.length).all (fun i => (bs[i]?).getD false) = bs.all id := by
  rw [Bool.eq_iff_iff, List.all_eq_true, List.all_eq_true]
  constructor
  · intro h b hb
    obtain ⟨i, hi, rfl⟩ := List.getElem_of_mem hb
    have := h i (by simpa using hi)
    simpa [hi] using this
  · intro h i hi
    have hi' : i < bs.length := by simpa using hi
    simpa [hi'] using h bs[i] (List.getElem_mem hi')
theorem vals_bools {bs : List Bool} : ∀ {us : List Value}, Vals (bs.map V.bl) us → us = bs.map Value.bool := by
  induction bs with
  | nil => intro us r; cases r; rfl
  | cons b bs ih =>
    intro us r
    cases r with
    | cons r rs => cases (show _ = Value.bool b from r); rw [ih rs]; rfl
theorem call_all_bools (hc : X.calm = true) : CallR X (.builtin "all") (fun xs H Q => ∃ (p : Addr) (bs : List Bool), xs = [.ref p] ∧ SqL X.K H p (bs.map V.bl) ∧ Q (.bl (bs.all id)) H) := by
  intro pins s σ H xs us Q I r h
  obtain ⟨p, bs, rfl, hq, q⟩ := h
  obtain ⟨u, rfl, rx⟩ := vals1 r
  cases rx
  obtain ⟨its, rv, pl, hz⟩ := I.list hq
  have e := vals_bools rv
  have hlen : its.length = bs.length := by rw [e, List.length_map]
  refine call_all_walk (wpAny_pyIter_list pl.isList ⟨s.heap.objs.size, [s.heap.objs.size, p], [s.heap.objs.size], its.length, _, _, fun i => (bs[i]?).getD false, rfl,
    walks_list (show X.A.in1.handled = none from I.ok.hd hc) s.heap.objs.size p ?_ its, ⟨⟨_, Heap.get?_push_size _ rfl, rfl, rfl⟩, ?_⟩, ?_, ?_⟩)
  · intro z
    obtain ⟨o, ho, _⟩ := pl.isList
    have := Heap.lt_size ho
    rw [← z] at this
    exact Nat.lt_irrefl _ this
  · obtain ⟨o, ho, hcl⟩ := pl.isList
    exact ⟨o, Heap.get?_push_of_some _ ho, hcl⟩
  · intro i v s1 Q1 E1 hP hQ
    rw [e, List.getElem?_map] at hP
    cases r : bs[i]? with
    | none => rw [r] at hP; cases hP
    | some b =>
      rw [r] at hP
      cases hP
      simp only [r, Option.getD_some] at hQ
      exact wpAny_truthy_bool hQ
  · intro h' tk k
    rw [hlen, range_all_get]
    have f := I.fpOk (H' := H) (b := s.heap.objs.size) (Nat.le_refl _) (I.hok.fresh (Nat.le_refl _))
    have I2 : Inv X pins σ H { s with heap := h', toks := tk } := I.turned (h' := h') (t' := tk) (it := s.heap.objs.size) (fun b o hb e => k b o (by simpa using hb) (Heap.get?_push_of_some _ e)) f.1 f.2.1 f.2.2.2.1 f.2.2.2.2.1 f.2.2.2.2.2
    exact ⟨.bl _, H, I2, rfl, q⟩
end
end L2
set_option Elab.async false
set_option linter.all false
set_option maxRecDepth 100000
set_option maxHeartbeats 4000000
namespace L2
open PySem PySem.Spec PyProof.Rows

/-! ### a def of the text, called by its name; no exception leaves it -/
def FnAt (P : Program) (w : World) (K : PySem.W.Frag) (mg : Str → Option Value) (base : Heap) (k : Nat) (x : Str) (ps : List Str) (sp : Sp) : Prop :=
  ∃ f fd, FnOk P w K mg base CX0 k f fd ps sp ∧ mg x = some (.ref f) ∧ PySem.W.keepIn K (.ref f) = true ∧ Binds K fd ps []
section
variable {X : Cx} {k j : Nat} {x : Str} {ps : List Str} {sp : Sp} {e : Expr} {es : List Expr} {t : TA} {p pos : Pos}
theorem pe_fn (F : FnAt X.prog X.w X.K X.mg X.base k x ps sp) (hr : Room k X.A) (hg : Gl X x) (ha : PA X (e :: es) t) (hd : (x == ("__debug__" : Str)) = false := by decide)
    (he : starEach (e :: es) X.env = (false, eval e X.env) :: starEach es X.env := by rfl) (hpl : (backTo pos (starEach es X.env)).any (·.1) = false := by rfl) :
    PE X (.Call (.Name x p) (e :: es) [] pos) (tCall sp [] E0 t) := by
  obtain ⟨f, fd, G, hm, hk, hb⟩ := F
  exact pe_call G hr hg hm hk hb .nil pass0 ha (hdb := hd) (he := he) (hpl := hpl)
end

/-! ### what the built-in names are -/
theorem bt_abs : bootBuiltins "abs" = some (.builtin "abs") := by kernel_rfl
theorem bt_all : bootBuiltins "all" = some (.builtin "all") := by kernel_rfl
theorem bt_len : bootBuiltins "len" = some (.builtin "len") := by kernel_rfl
theorem bt_min : bootBuiltins "min" = some (.builtin "min") := by kernel_rfl
theorem bt_max : bootBuiltins "max" = some (.builtin "max") := by kernel_rfl
theorem bt_isinstance : bootBuiltins "isinstance" = some (.builtin "isinstance") := by kernel_rfl
theorem bt_int : bootBuiltins "int" = some (.type "int") := by kernel_rfl
theorem bt_bool : bootBuiltins "bool" = some (.type "bool") := by kernel_rfl
theorem bt_list : bootBuiltins "list" = some (.type "list") := by kernel_rfl
theorem bt_tuple : bootBuiltins "tuple" = some (.type "tuple") := by kernel_rfl
/-! ### a product whose size fits -/
section
variable {X : Cx}
theorem op_mulB : OpR X (binaryOp .Mult) (rI IntMulOk fun i j => .int (i * j)) := opI fun _ _ _ _ _ _ _ hc q => mul_int q hc
end

/-! ### heaps: what stays -/
/-- all stays but what stands at r -/
def Kp (r : Addr) (H H' : Hp) : Prop := ∀ b o, H b = some o → b ≠ r → H' b = some o
theorem Kp.of_same {r : Addr} {H H' : Hp} (h : Same H H') : Kp r H H' := fun b o e _ => h b o e
theorem Kp.trans {r : Addr} {H H1 H2 : Hp} (a : Kp r H H1) (b : Kp r H1 H2) : Kp r H H2 := fun c o h n => b c o (a c o h n) n
theorem Kp.refl (r : Addr) (H : Hp) : Kp r H H := fun _ _ h _ => h
theorem Kp.set {r : Addr} {H : Hp} {o : HO} : Kp r H (upd H r o) := fun b u e n => by rw [upd_ne n]; exact e
theorem same_new {H : Hp} {p : Addr} {o : HO} (h : H p = none) : Same H (upd H p o) := fun b u e => by rw [upd_ne (ne_of_none e h)]; exact e
theorem Same.tups {H H' : Hp} (e : Same H H') : ∀ a xs, H a = some (HO.tup xs) → H' a = some (HO.tup xs) := fun a xs h => e _ _ h
theorem Same.sqL {K : PySem.W.Frag} {H H' : Hp} (e : Same H H') : ∀ a xs, SqL K H a xs → SqL K H' a xs := fun a xs h => e.seq h
/-- a list at r: tuples are elsewhere -/
theorem Kp.tups {H H' : Hp} {r : Addr} {ys : List V} (e : Kp r H H') (hr : H r = some (.lst ys)) : ∀ a xs, H a = some (HO.tup xs) → H' a = some (HO.tup xs) := fun a xs h => e _ _ h (ne_of h hr (by intro z; cases z))
theorem Kp.tups' {H H' : Hp} {r : Addr} {kvs : List (Key × V)} (e : Kp r H H') (hr : H r = some (.dK kvs)) : ∀ a xs, H a = some (HO.tup xs) → H' a = some (HO.tup xs) := fun a xs h => e _ _ h (ne_of h hr (by intro z; cases z))
end L2

/-! ### the rules over K itself (a block's context has the same K) -/
namespace L2
open PySem PySem.Spec PyProof.Rows
section
variable {X : Cx} {K : PySem.W.Frag}
theorem ix_listK (h : X.K = K) : IxR X (rIxL K) := by subst h; exact ix_list
theorem ix_tupK (h : X.K = K) : IxR X (rIxT K) := by subst h; exact ix_tup
theorem sl_listK (h : X.K = K) : SlR X (rSlL K) := by subst h; exact sl_list
theorem sl_tupK (h : X.K = K) : SlR X (rSlT K) := by subst h; exact sl_tup
def rLen (K : PySem.W.Frag) : List V → Hp → VK → Prop := fun xs H Q => ∃ (p : Addr) (ys : List V), xs = [.ref p] ∧ (SqL K H p ys ∨ SqT K H p ys) ∧ Q (.int ys.length) H
theorem call_len_seqK (h : X.K = K) : CallR X (.builtin "len") (rLen K) := by subst h; exact call_len_seq
def rListOf (K : PySem.W.Frag) : List V → Hp → VK → Prop := fun xs H Q => ∃ (p : Addr) (ys : List V), xs = [.ref p] ∧ (SqL K H p ys ∨ SqT K H p ys) ∧ ∀ l, H l = none → Q (.ref l) (upd H l (.lst ys))
theorem call_list_ofK (h : X.K = K) : CallR X (.type "list") (rListOf K) := by subst h; exact call_list_of
def rAllB (K : PySem.W.Frag) : List V → Hp → VK → Prop := fun xs H Q => ∃ (p : Addr) (bs : List Bool), xs = [.ref p] ∧ SqL K H p (bs.map V.bl) ∧ Q (.bl (bs.all id)) H
theorem call_all_boolsK (h : X.K = K) (hc : X.calm = true) : CallR X (.builtin "all") (rAllB K) := by subst h; exact call_all_bools hc
theorem op_eqDK (h : X.K = K) (hu : X.A.units + 64 < cLine) : OpR X (compareOp .Eq) (rEqD false) := by subst h; exact op_eqD hu
theorem op_neDK (h : X.K = K) (hu : X.A.units + 64 < cLine) : OpR X (compareOp .NotEq) (rEqD true) := by subst h; exact op_neD hu
theorem pi_listK {tg l : Expr} {tl : TE} (h : X.K = K) (hl : PE X l tl) : PI X tg l (iList K tl) := by subst h; exact pi_list hl
theorem pi_tupK {tg l : Expr} {tl : TE} (h : X.K = K) (hl : PE X l tl) : PI X tg l (iTup K tl) := by subst h; exact pi_tup hl
def rIsi (K : PySem.W.Frag) (c : Value) (cv : V) : List V → Hp → VK → Prop := fun xs H Q => ∃ x t b, xs = [x, cv] ∧ TyOf K H x t ∧ PySem.W.kitOne K t c = some b ∧ Q (.bl b) H
theorem call_isiK {c : Value} {cv : V} (h : X.K = K) (rc : RelV cv c) : CallR X (.builtin "isinstance") (rIsi K c cv) := by subst h; exact call_isi rc
theorem pe_appendK {o e : Expr} {to : TE} {t : TA} {apos cpos : Pos} (h : X.K = K) (ho : PE X o to) (ha : PA X [e] t)
    (hbase : attributeBase o "append" X.env (eval o X.env) = eval o X.env := by rfl)
    (hfew : ((backTo cpos (starEach [e] X.env)).all (fun x => !x.1) && (backToKw cpos (keywordEach [] X.env)).all (fun x => x.1.isSome)
      && decide (([e] : List Expr).length + ([] : List Keyword).length + (if ([] : List Keyword).isEmpty then 0 else 1) < 30)) = true := by rfl)
    (hline : (apos.endLine == cpos.line) = true := by rfl) (hs : starEach [e] X.env = (false, eval e X.env) :: starEach [] X.env := by rfl) (hplain : (backTo cpos (starEach [] X.env)).any (·.1) = false := by rfl) :
    PE X (.Call (.Attribute o "append" apos) [e] [] cpos) (tBM K "list" rAppend to t) := by
  subst h
  exact pe_bm PySem.F.plainAttrs_list PySem.F.slot_list_append PySem.F.type_list_append mt_append ho ha hbase hfew hline hs hplain
end
end L2
namespace L2
open PySem
/-! ### comprehensions by their invariant -/
section
variable {K : PySem.W.Frag} {a D : Addr} {xs : List V} {g : TG} {tc : TT} {te : TE} {Q : VK} {σ0 : St} {H1 : Hp}
/-- over a list that the block leaves as it is -/
theorem comp_list (Pv : Nat → St → Hp → Prop) (h0 : Pv 0 σ0 (upd H1 D (.lst []))) (hl : ∀ i σ H, i ≤ xs.length → Pv i σ H → SqL K H a xs)
    (hs : ∀ i x σ H, xs[i]? = some x → Pv i σ H → g x σ H fun σ2 H2 => tc σ2 H2 fun b H3 =>
      if b = true then te σ2 H3 fun y H4 => ∃ acc, H4 D = some (.lst acc) ∧ acc.length < sizeLine ∧ Pv (i + 1) σ2 (upd H4 D (.lst (acc ++ [y]))) else Pv (i + 1) σ2 H3)
    (hd : ∀ σ H, Pv xs.length σ H → Q (.ref D) H) : CompW (Itl K a) g tc te Q D σ0 H1 := by
  refine ⟨fun i m σ H => m = xs.length - i ∧ i ≤ xs.length ∧ Pv i σ H, ⟨xs.length, by simp, Nat.zero_le _, h0⟩, ?_⟩
  rintro i m σ H ⟨rfl, hi, p⟩
  have q := hl i σ H hi p
  by_cases hlt : i < xs.length
  · refine .inr ⟨⟨xs, xs[i], q, by simp [hlt]⟩, Pv (i + 1), fun σ' H' p' => ⟨xs.length - (i + 1), by omega, rfl, hlt, p'⟩, fun x H' y => ?_⟩
    obtain ⟨e, y⟩ := y
    subst e
    exact hs i x σ _ (y xs q) p
  · have e : i = xs.length := by omega
    subst e
    exact .inl ⟨⟨xs, q, Nat.le_refl _⟩, hd σ H p⟩
theorem comp_tup (Pv : Nat → St → Hp → Prop) (h0 : Pv 0 σ0 (upd H1 D (.lst []))) (hl : ∀ i σ H, i ≤ xs.length → Pv i σ H → SqT K H a xs)
    (hs : ∀ i x σ H, xs[i]? = some x → Pv i σ H → g x σ H fun σ2 H2 => tc σ2 H2 fun b H3 =>
      if b = true then te σ2 H3 fun y H4 => ∃ acc, H4 D = some (.lst acc) ∧ acc.length < sizeLine ∧ Pv (i + 1) σ2 (upd H4 D (.lst (acc ++ [y]))) else Pv (i + 1) σ2 H3)
    (hd : ∀ σ H, Pv xs.length σ H → Q (.ref D) H) : CompW (Itt K a) g tc te Q D σ0 H1 := by
  refine ⟨fun i m σ H => m = xs.length - i ∧ i ≤ xs.length ∧ Pv i σ H, ⟨xs.length, by simp, Nat.zero_le _, h0⟩, ?_⟩
  rintro i m σ H ⟨rfl, hi, p⟩
  have q := hl i σ H hi p
  by_cases hlt : i < xs.length
  · refine .inr ⟨⟨xs, xs[i], q, by simp [hlt]⟩, Pv (i + 1), fun σ' H' p' => ⟨xs.length - (i + 1), by omega, rfl, hlt, p'⟩, fun x H' y => ?_⟩
    obtain ⟨e, y⟩ := y
    subst e
    exact hs i x σ _ (y xs q) p
  · have e : i = xs.length := by omega
    subst e
    exact .inl ⟨⟨xs, q, Nat.le_refl _⟩, hd σ H p⟩
theorem comp_range {lo : Int} {n : Nat} (Pv : Nat → St → Hp → Prop) (h0 : Pv 0 σ0 (upd H1 D (.lst [])))
    (hs : ∀ i σ H, i < n → Pv i σ H → g (.int (lo + i)) σ H fun σ2 H2 => tc σ2 H2 fun b H3 =>
      if b = true then te σ2 H3 fun y H4 => ∃ acc, H4 D = some (.lst acc) ∧ acc.length < sizeLine ∧ Pv (i + 1) σ2 (upd H4 D (.lst (acc ++ [y]))) else Pv (i + 1) σ2 H3)
    (hd : ∀ σ H, Pv n σ H → Q (.ref D) H) : CompW (Itr lo n) g tc te Q D σ0 H1 := by
  refine ⟨fun i m σ H => m = n - i ∧ i ≤ n ∧ Pv i σ H, ⟨n, by simp, Nat.zero_le _, h0⟩, ?_⟩
  rintro i m σ H ⟨rfl, hi, p⟩
  by_cases hlt : i < n
  · refine .inr ⟨hlt, Pv (i + 1), fun σ' H' p' => ⟨n - (i + 1), by omega, rfl, hlt, p'⟩, fun x H' y => ?_⟩
    obtain ⟨e, y⟩ := y
    subst e y
    exact hs i σ _ hlt p
  · have e : i = n := by omega
    subst e
    exact .inl ⟨Nat.le_refl _, hd σ H p⟩
end
end L2
set_option Elab.async false
set_option linter.all false
set_option maxRecDepth 100000
set_option maxHeartbeats 4000000
namespace L2
open PySem PySem.Spec PyProof.Rows
/-! ### lists of data: shape and equality -/
section
variable {α : Type} (f : α → PyData)
theorem canAll_map : ∀ (l : List α), (∀ x ∈ l, (f x).canLay0 = true) → PyData.canLayAll0 (l.map f) = true
  | [], _ => rfl
  | a :: l, h => by
    show (PyData.canLay0 (f a) && PyData.canLayAll0 (l.map f)) = true
    rw [h a List.mem_cons_self, canAll_map l fun x hx => h x (List.mem_cons_of_mem _ hx)]; rfl
theorem depthAll_map (k : Nat) : ∀ (l : List α), (∀ x ∈ l, (f x).depth ≤ k) → PyData.depthAll (l.map f) ≤ k
  | [], _ => Nat.zero_le _
  | a :: l, h => by
    show max (PyData.depth (f a)) (PyData.depthAll (l.map f)) ≤ k
    exact Nat.max_le.mpr ⟨h a List.mem_cons_self, depthAll_map k l fun x hx => h x (List.mem_cons_of_mem _ hx)⟩
theorem shaped_list {l : List α} (k : Nat) (hk : k < 64) (h1 : ∀ x ∈ l, (f x).canLay0 = true) (h2 : ∀ x ∈ l, (f x).depth ≤ k) : SeqAt.shaped (.list (l.map f)) = true := by
  unfold SeqAt.shaped
  have e1 : PyData.canLay0 (.list (l.map f)) = true := canAll_map f l h1
  have e2 : PyData.depth (.list (l.map f)) ≤ 64 := by
    show PyData.depthAll (l.map f) + 1 ≤ 64
    have := depthAll_map f k l h2
    omega
  rw [e1, decide_eq_true e2]; rfl
theorem eqvAll_map [DecidableEq α] (h : ∀ x y, PyData.eqv (f x) (f y) = decide (x = y)) : ∀ (l m : List α), PyData.eqvAll (l.map f) (m.map f) = decide (l = m)
  | [], [] => rfl
  | [], _ :: _ => by simp only [List.map_nil, List.map_cons, PyData.eqvAll]; exact (decide_eq_false (by intro z; cases z)).symm
  | _ :: _, [] => by simp only [List.map_nil, List.map_cons, PyData.eqvAll]; exact (decide_eq_false (by intro z; cases z)).symm
  | a :: l, b :: m => by
    simp only [List.map_cons, PyData.eqvAll]
    rw [h a b, eqvAll_map h l m]
    by_cases e1 : a = b
    · subst e1
      by_cases e2 : l = m
      · subst e2; simp
      · simp [e2]
    · simp [e1]
theorem eqv_list [DecidableEq α] (h : ∀ x y, PyData.eqv (f x) (f y) = decide (x = y)) (l m : List α) : PyData.eqv (.list (l.map f)) (.list (m.map f)) = decide (l = m) := by
  simp only [PyData.eqv]; exact eqvAll_map f h l m
end
theorem dat_list {H : Hp} {a : Addr} {vs : List V} {ds : List PyData} (h : H a = some (.lst vs)) (d : Dats H vs ds) : Dat H (.ref a) (.list ds) := by
  simp only [Dat]
  exact ⟨a, vs, rfl, h, d⟩
theorem isi_int_int (K : PySem.W.Frag) : PySem.W.kitOne K (.type "int") (.type "int") = some true := rfl
theorem isi_int_bool (K : PySem.W.Frag) : PySem.W.kitOne K (.type "int") (.type "bool") = some false := by kernel_rfl
theorem isi_tuple_tuple (K : PySem.W.Frag) : PySem.W.kitOne K (.type "tuple") (.type "tuple") = some true := rfl
theorem isi_bool_bool (K : PySem.W.Frag) : PySem.W.kitOne K (.type "bool") (.type "bool") = some true := rfl
end L2
namespace L2
open PySem
theorem cut_take (xs : List V) (k : Nat) : cutV xs none (some (k : Int)) = xs.take k := by
  unfold cutV
  rw [HT.sIx_none, HT.sIx_nat, List.drop_zero, Nat.sub_zero]
  by_cases h : k ≤ xs.length
  · rw [Nat.min_eq_left h]
  · rw [Nat.min_eq_right (by omega), List.take_of_length_le (Nat.le_refl _), List.take_of_length_le (by omega)]
theorem cut_drop (xs : List V) (k : Nat) : cutV xs (some (k : Int)) none = xs.drop k := by
  unfold cutV
  rw [HT.sIx_none, HT.sIx_nat]
  by_cases h : k ≤ xs.length
  · rw [Nat.min_eq_left h, List.take_of_length_le (by rw [List.length_drop]; exact Nat.le_refl _)]
  · rw [Nat.min_eq_right (by omega), Nat.sub_self, List.take_zero, List.drop_of_length_le (by omega)]
end L2
set_option Elab.async false
set_option linter.all false
set_option maxRecDepth 100000
set_option maxHeartbeats 4000000
namespace PySem.W
open PySem PySem.Spec PySem.Calls PyProof.Rows
theorem ga_kind : builtinKind "BaseException.__getattribute__" = some .slot := by decide +kernel
theorem ga_split : splitId "BaseException.__getattribute__" = some ("BaseException", "__getattribute__") := by decide +kernel
section
variable {prog : Program} {w : World} {A : Around} {E : Value → Shared → Prop} {s : Shared} {K : Frag} {x D : Addr} {ox : Obj} {odo : Option Obj} {name : Str}
theorem exc_check {M : Model} {nameV : Value} {Q : Unit → Shared → Prop} (X : K.In s.heap) (I : InstAt s.heap x ox D odo) (hB : mroIn K D (.type "BaseException") = some true) (hq : Q () s) :
    wpAny M A (checkBuiltinCall "BaseException.__getattribute__" ⟨[.ref x, nameV], []⟩) Q E s := by
  obtain ⟨hh, g, d, t, os⟩ := s
  have L0 := I.type (M := M)
  have L3 := looks_mroIn (M := M) X hB
  have ha := F.args_bexc_ga (.ref x) nameV
  simp only [checkBuiltinCall, ga_kind, ga_split]
  unfold isInstance
  repeat (first | lk | wp_step)
  all_goals first | exact hq | trace_state
theorem exc_open {Q : Option Value → Shared → Prop} {gv a : Value} (X : K.In s.heap) (I : InstAt s.heap x ox D odo) (hga : findIn K (.ref D) "__getattribute__" = some (some (.builtin "BaseException.__getattribute__")))
    (hk : findIn K (.ref D) "__getattr__" = some none) (hB : mroIn K D (.type "BaseException") = some true) (hf : findObj K D odo name = some (.bind gv a))
    (FB : Slot "Exception" "__getattribute__" "BaseException.__getattribute__")
    (h : ∀ A', codeAny (model prog w) A' (.call gv ⟨[a, .ref x, .ref D], []⟩) (fun r s' => match r with | .ok (.ret v) => wpAny (model prog w) A (handedOut v) (fun v s'' => Q (some v) s'') (fun _ _ => False) s' | _ => False) { s with toks := s.toks + 1 }) :
    wpAny (model prog w) A (getAttr? (.ref x) name) Q E s := by
  obtain ⟨hh, g, d, t, os⟩ := s
  have L0 := I.type (M := model prog w)
  have L1 := looks_findIn (M := model prog w) X hga
  have L2 := looks_findIn (M := model prog w) X hk
  have L4 := looks_find (M := model prog w) X I hf
  have hx2 : (Value.builtin "BaseException.__getattribute__" == Value.builtin "object.__getattribute__") = false := by decide +kernel
  have f3 := FB.bind (.ref x)
  unfold getAttr? getAttrBy? getAttrBy
  refine wpAny_bind (wpAny_mkText (wpAny_bind (wpAny_attempt (wpAny_holding (wpAny_bind (L0.at (wpAny_bind (L1.at ?_))))))))
  simp only [hx2, Bool.and_false, Bool.false_eq_true, if_false]
  unfold getAttrByItsOwn hookBefore
  show wpAny _ _ (typeLookup (.ref D) "__getattr__" >>= _) _ _ _
  refine wpAny_bind (L2.at ?_)
  refine wpAny_bind (wpAny_attempt (wpAny_holding ?_))
  unfold callGetattribute boundAndCalled
  rw [if_neg (by decide)]
  refine wpAny_bind (wpAny_of_eq f3 ?_)
  refine wpAny_call (codeAny_call_builtin FB.plain F.entry_bexc_ga (exc_check (s := ⟨hh, g, d, t + 1, os⟩) X I hB ?_))
  show wpAny _ _ (Builtin.«object.__getattribute__» ⟨[.ref x, .str name t], []⟩) _ _ _
  unfold Builtin.«object.__getattribute__»
  refine wpAny_bind (wpAny_pure ?_)
  refine wpAny_bind (wpAny_pure ?_)
  refine wpAny_bind (L0.at (wpAny_bind (L4.at ?_)))
  show wpAny _ _ (Builtin.ObjectAttr.bindTo gv a (.ref x) (.ref D)) _ _ _
  unfold Builtin.ObjectAttr.bindTo
  show wpAny _ _ (holding [a] (call gv [a, .ref x, .ref D]) >>= fun v => ret v) _ _ _
  refine wpAny_bind (wpAny_holding (wpAny_call (codeAny_mono (h _) fun r s' hr => ?_)))
  match r, hr with
  | .ok (.ret v), hr =>
    refine wpAny_pure ?_
    exact wpAny_mono hr (fun v s'' q => wpAny_pure q) fun _ _ z => z.elim
end
theorem exc_slot : Slot "Exception" "__getattribute__" "BaseException.__getattribute__" := F.attr_Exception.ga
theorem findObj_dataO {K : Frag} {C : Addr} {od : Option Obj} {name : Str} {a g : Value} (hc : (clsIn K C).isSome = true) (ha : findIn K (.ref C) name = some (some a)) (hg : specialIn K a "__get__" = some (some g)) (ht : takesIn K a = some true) : findObj K C od name = some (.bind g a) := by
  obtain ⟨cd, hc⟩ := Option.isSome_iff_exists.mp hc
  unfold findObj
  rw [hc, Option.bind_some, ha, Option.bind_some]
  simp [hg, ht]
/-- e.__class__ of an exception of an own class without a dict -/
theorem exc_class {prog : Program} {w : World} {A : Around} {E : Value → Shared → Prop} {s : Shared} {K : Frag} {x D : Addr} {ox : Obj} {odo : Option Obj} {Q : Option Value → Shared → Prop} (X : K.In s.heap) (I : InstAt s.heap x ox D odo)
    (hga : findIn K (.ref D) "__getattribute__" = some (some (.builtin "BaseException.__getattribute__"))) (hk : findIn K (.ref D) "__getattr__" = some none) (hB : mroIn K D (.type "BaseException") = some true)
    (hc : (clsIn K D).isSome = true) (ha : findIn K (.ref D) "__class__" = some (some (.builtin "object.__class__")))
    (hn : specialIn K (.builtin "object.__class__") "__get__" = some (some (.builtin "getset_descriptor.__get__"))) (htk : takesIn K (.builtin "object.__class__") = some true) (hm : mroIn K D (.type "object") = some true)
    (h : Q (some (.ref D)) { s with toks := s.toks + 1 }) : wpAny (model prog w) A (getAttr? (.ref x) "__class__") Q E s := by
  have hf : findObj K D odo "__class__" = some (.bind (.builtin "getset_descriptor.__get__") (.builtin "object.__class__")) := findObj_dataO hc ha hn htk
  exact exc_open X I hga hk hB hf exc_slot fun A' => class_get (s := { s with toks := s.toks + 1 }) X I hm (handed_on rfl h)
/-- what the text's class of exceptions must have -/
structure XCls (K : Frag) (D : Addr) : Prop where
  hga : findIn K (.ref D) "__getattribute__" = some (some (.builtin "BaseException.__getattribute__"))
  hk : findIn K (.ref D) "__getattr__" = some none
  hB : mroIn K D (.type "BaseException") = some true
  hc : (clsIn K D).isSome = true
  ha : findIn K (.ref D) "__class__" = some (some (.builtin "object.__class__"))
  hn : specialIn K (.builtin "object.__class__") "__get__" = some (some (.builtin "getset_descriptor.__get__"))
  htk : takesIn K (.builtin "object.__class__") = some true
  hm : mroIn K D (.type "object") = some true
theorem kitx_exc {K : Frag} {x D : Addr} (c : XCls K D) : KitX K (.ref x) (.ref D) (fun h => ∃ ox odo, InstAt h x ox D odo) where
  ty := fun _ _ _ ⟨_, _, I⟩ => I.type
  it := fun _ _ X _ => by
    have hc := c.hc
    unfold clsIn at hc
    split at hc
    · rename_i c' d' cd' sl' ho
      intro A' Q' E' s' k q
      unfold isType loadHead
      exact wpAny_bind (wpAny_loadPart (k _ _ (X _ _ ho)) (wpAny_pure q))
    · cases hc
  ne := fun h tp dd its n sl X htp => by
    have hc := c.hc
    refine Bool.eq_false_iff.mpr fun q => ?_
    have e : D = tp := Value.ref.inj (beq_iff_eq.mp q)
    subst e
    unfold clsIn at hc
    split at hc
    · rename_i c' d' cd' sl' ho
      have z := (X _ _ ho).symm.trans htp
      cases z
    · cases hc
  ca := fun X ⟨_, _, I⟩ k => exc_class X I c.hga c.hk c.hB c.hc c.ha c.hn c.htk c.hm k
end PySem.W
set_option Elab.async false
set_option linter.all false
set_option maxRecDepth 100000
set_option maxHeartbeats 4000000
namespace L2
open PySem PySem.Spec PyProof.Rows

/-! ### an exception and its record -/
/-- the exception at e: of the class cls, its dict at dx; fl: none, no record yet; some f: its record's flight is f, the record lies where lo says -/
def XObj (h : Heap) (e : Addr) (cls : Value) (dx : Option Addr) (lo : Addr → Prop) : Option Value → Prop
  | none => ∃ oe vs, h.get? e = some oe ∧ oe.cls = cls ∧ oe.dict = dx ∧ oe.data = .fields vs ∧ vs[1]? = some .none
  | some f => ∃ oe vs T oT ts, h.get? e = some oe ∧ oe.cls = cls ∧ oe.dict = dx ∧ oe.data = .fields vs ∧ vs[1]? = some (.ref T) ∧ lo T ∧ T ≠ e ∧ h.get? T = some oT ∧ oT.data = .fields ts ∧ ts[3]? = some f
theorem XObj.there {h : Heap} {e : Addr} {cls : Value} {dx : Option Addr} {lo : Addr → Prop} {f : Option Value} (x : XObj h e cls dx lo f) : ∃ oe vs, h.get? e = some oe ∧ oe.cls = cls ∧ oe.dict = dx ∧ oe.data = .fields vs := by
  cases f with
  | none => obtain ⟨oe, vs, a, b, c, d, _⟩ := x; exact ⟨oe, vs, a, b, c, d⟩
  | some f => obtain ⟨oe, vs, _, _, _, a, b, c, d, _⟩ := x; exact ⟨oe, vs, a, b, c, d⟩

section
variable {M : Model} {A : Around} {E : Value → Shared → Prop} {s : Shared} {base : Heap} {env : Env} {outer : List Env} {L e : Addr}
/-- what a note leaves: all but the frames' slots, the exception and old records -/
structure Noted (fr : List Addr) (e : Addr) (lo : Addr → Prop) (h h' : Heap) : Prop where
  keep : ∀ b o, h.get? b = some o → b ∉ fr → b ≠ e → ¬ lo b → h'.get? b = some o
  slot : ∀ b o, h.get? b = some o → b ∈ fr → b ≠ e → ¬ lo b → ∃ sl, h'.get? b = some { o with slots := sl }
  there : ∀ b o, h.get? b = some o → ∃ o', h'.get? b = some o'
theorem Noted.trans {fr : List Addr} {lo : Addr → Prop} {h h1 h2 : Heap} (a : Noted fr e lo h h1) (b : Noted fr e lo h1 h2) : Noted fr e lo h h2 where
  keep := fun c o q n1 n2 n3 => b.keep c o (a.keep c o q n1 n2 n3) n1 n2 n3
  slot := fun c o q n1 n2 n3 => by
    obtain ⟨sl, q1⟩ := a.slot c o q n1 n2 n3
    obtain ⟨sl2, q2⟩ := b.slot c _ q1 n1 n2 n3
    exact ⟨sl2, q2⟩
  there := fun c o q => by
    obtain ⟨o1, q1⟩ := a.there c o q
    exact b.there c o1 q1
theorem upd_fields {h : Heap} {a : Addr} {o : Obj} {vs : Array Value} (q : h.get? a = some o) (d : o.data = .fields vs) (i : Nat) (v : Value) :
    (h.update a (Obj.mapFields (·.setIfInBounds i v))).get? a = some (Obj.mapFields (·.setIfInBounds i v) o) ∧ (Obj.mapFields (·.setIfInBounds i v) o).data = .fields (vs.setIfInBounds i v) ∧
      (Obj.mapFields (·.setIfInBounds i v) o).cls = o.cls ∧ (Obj.mapFields (·.setIfInBounds i v) o).dict = o.dict := by
  have d2 := Obj.data_mapFields d (·.setIfInBounds i v)
  refine ⟨Heap.get?_update_self _ q (Obj.isFreed_of_fields d2), d2, Obj.cls_mapFields _ _, ?_⟩
  obtain ⟨c, dd, dt, sl⟩ := o
  simp only at d
  subst d
  rfl
/-- a record is laid and named by the exception -/
theorem xentry {oe : Obj} {vs : Array Value} {head : Value} {hadNext : Bool} {cls : Value} {dx : Option Addr} {lo : Addr → Prop} {Q : Unit → Shared → Prop} (hfr : A.frames = some (env :: outer)) (hl : s.heap.FunFrames base (env :: outer)) (hf : env.frame = some L)
    (he : s.heap.get? e = some oe) (hd : oe.data = .fields vs) (hsz : 1 < vs.size) (hc : oe.cls = cls) (hdx : oe.dict = dx) (hlo : ∀ T, s.heap.get? T = none → lo T)
    (h : ∀ h', Noted (frs (env :: outer)) e lo s.heap h' → XObj h' e cls dx lo (some (rawInt L)) → Q () { s with heap := h' }) :
    wpAny M A (do let a ← frameOf env; let pl ← entryPlaceOf L hadNext; let b ← EntryCells.newEntry head a .none (rawInt L) .none pl; setField (.ref e) 1 b) Q E s := by
  have nfr : e ∉ frs (env :: outer) := fun hm => by
    obtain ⟨_, o, q, nf⟩ := hl.mem hm
    rw [he] at q
    cases q
    exact nf vs hd
  refine wpAny_bind (wpAny_frameOf_fun hfr hl hf fun h1 hs1 => ?_)
  refine wpAny_bind (wpAny_entryPlaceOf fun pl hpl => ?_)
  unfold EntryCells.newEntry newFields
  refine wpAny_bind (wpAny_newObj_type ?_ (hpl.sizeOk5 _ _ _ _ _))
  generalize hob : ({ cls := .type "traceback", dict := none, data := .fields ([head, .ref L, .none, rawInt L, .none] ++ (if pl.isEmpty then List.replicate 6 Value.none else pl)).toArray } : Obj) = ob
  have q1 : h1.get? e = some oe := (hs1.2.1 e nfr).trans he
  have q2 := Heap.get?_push_of_some (h := h1) ob q1
  have nTe : h1.objs.size ≠ e := Nat.ne_of_gt (Heap.lt_size q1)
  have sizes : h1.objs.size = s.heap.objs.size := hs1.1
  have newT : s.heap.get? h1.objs.size = none := Heap.get?_none_of_le (by rw [sizes]; exact Nat.le_refl _)
  refine wpAny_setField q2 hd hsz (h _ ⟨fun b o q n1 n2 n3 => ?_, fun b o q n1 n2 n3 => ?_, fun b o q => ?_⟩ ?_)
  · rw [Heap.get?_update_other _ _ (Ne.symm n2)]
    exact Heap.get?_push_of_some _ ((hs1.2.1 b n1).trans q)
  · obtain ⟨sl, q3⟩ := hs1.2.2 b o q
    refine ⟨sl, ?_⟩
    rw [Heap.get?_update_other _ _ (Ne.symm n2)]
    exact Heap.get?_push_of_some _ q3
  · obtain ⟨sl, q3⟩ := hs1.2.2 b o q
    by_cases hb : b = e
    · subst hb
      exact ⟨_, (upd_fields q2 hd 1 _).1⟩
    · refine ⟨{ o with slots := sl }, ?_⟩
      rw [Heap.get?_update_other _ _ (Ne.symm hb)]
      exact Heap.get?_push_of_some _ q3
  · obtain ⟨u1, u2, u3, u4⟩ := upd_fields q2 hd 1 (Value.ref h1.objs.size)
    refine ⟨_, _, h1.objs.size, ob, _, u1, u3.trans hc, u4.trans hdx, u2, by simp [hsz], hlo _ newT, nTe, ?_, by rw [← hob], ?_⟩
    · rw [Heap.get?_update_other _ _ (Ne.symm nTe)]
      exact Heap.get?_push_size _ (by rw [← hob]; rfl)
    · first | (simp; done) | (rcases hpl with rfl | ⟨_, _, _, _, _, _, _, rfl⟩ <;> simp)
/-- an exception without record, or with one that is not in flight, is noted at a frame -/
theorem xnote {cls : Value} {dx : Option Addr} {lo : Addr → Prop} {Q : Unit → Shared → Prop} {fl : Option Value} (hfl : fl = none ∨ fl = some .none) (hfr : A.frames = some (env :: outer)) (hl : s.heap.FunFrames base (env :: outer)) (hf : env.frame = some L)
    (x : XObj s.heap e cls dx lo fl) (hlo : ∀ T, s.heap.get? T = none → lo T)
    (h : ∀ h', Noted (frs (env :: outer)) e lo s.heap h' → XObj h' e cls dx lo (some (rawInt L)) → Q () { s with heap := h' }) : wpAny M A (noteFrame (.ref e) env) Q E s := by
  unfold noteFrame
  simp only [hf]
  rcases hfl with rfl | rfl
  · obtain ⟨oe, vs, he, hc, hdx, hd, h1⟩ := x
    refine wpAny_bind (wpAny_field he hd h1 ?_)
    rw [if_neg (by decide)]
    exact xentry hfr hl hf he hd (Array.getElem?_eq_some_iff.mp h1).1 hc hdx hlo h
  · obtain ⟨oe, vs, T, oT, ts, he, hc, hdx, hd, h1, hT, nT, hgT, hdT, h3⟩ := x
    refine wpAny_bind (wpAny_field he hd h1 ?_)
    rw [if_pos (show (Value.ref T != Value.none) = true from by simp)]
    refine wpAny_bind (wpAny_field hgT hdT h3 ?_)
    rw [if_neg (show ¬ ((Value.none == rawInt L) = true) from by simp [rawInt])]
    have hs3 : 3 < ts.size := (Array.getElem?_eq_some_iff.mp h3).1
    refine wpAny_bind (wpAny_setField hgT hdT hs3 ?_)
    have oth : ∀ b, b ≠ T → (s.heap.update T (Obj.mapFields (·.setIfInBounds 3 Value.none))).get? b = s.heap.get? b := fun b hb => Heap.get?_update_other _ _ (Ne.symm hb)
    obtain ⟨u1, u2, u3, u4⟩ := upd_fields hgT hdT 3 Value.none
    have n0 : Noted (frs (env :: outer)) e lo s.heap (s.heap.update T (Obj.mapFields (·.setIfInBounds 3 Value.none))) := by
      have nb : ∀ b, ¬ lo b → b ≠ T := fun b hb z => hb (by rw [z]; exact hT)
      refine ⟨fun b o q _ _ n3 => (oth b (nb b n3)).trans q, fun b o q _ _ n3 => ⟨o.slots, (oth b (nb b n3)).trans q⟩, fun b o q => ?_⟩
      by_cases hb : b = T
      · subst hb; exact ⟨_, u1⟩
      · exact ⟨o, (oth b hb).trans q⟩
    have ffs : (s.heap.update T (Obj.mapFields (·.setIfInBounds 3 Value.none))).FunFrames base (env :: outer) := hl.of_keeps fun b o q nf => by
      by_cases hb : b = T
      · subst hb; rw [hgT] at q; cases q; exact absurd hdT (nf ts)
      · exact ⟨o, (oth b hb).trans q, rfl⟩
    refine xentry (s := { s with heap := s.heap.update T (Obj.mapFields (·.setIfInBounds 3 Value.none)) }) hfr ffs hf ((oth e (Ne.symm nT)).trans he) hd (Array.getElem?_eq_some_iff.mp h1).1 hc hdx (fun T' z => ?_) fun h' n1 x1 => h h' (n0.trans n1) x1
    by_cases hb : T' = T
    · rw [hb]; exact hT
    · exact hlo T' ((oth T' hb).symm.trans z)
/-- its flight is ended -/
theorem xland {cls : Value} {dx : Option Addr} {lo : Addr → Prop} {Q : Unit → Shared → Prop} {fr : List Addr} {f : Value} (x : XObj s.heap e cls dx lo (some f)) 
    (h : ∀ h', Noted fr e lo s.heap h' → XObj h' e cls dx lo (some .none) → Q () { s with heap := h' }) : wpAny M A (setFlight (.ref e) none) Q E s := by
  obtain ⟨oe, vs, T, oT, ts, he, hc, hdx, hd, h1, hT, nT, hgT, hdT, h3⟩ := x
  have hs3 : 3 < ts.size := (Array.getElem?_eq_some_iff.mp h3).1
  unfold setFlight
  refine wpAny_bind (wpAny_field he hd h1 ?_)
  rw [if_pos (show (Value.ref T != Value.none) = true from by simp)]
  have oth : ∀ b, b ≠ T → (s.heap.update T (Obj.mapFields (·.setIfInBounds 3 Value.none))).get? b = s.heap.get? b := fun b hb => Heap.get?_update_other _ _ (Ne.symm hb)
  obtain ⟨u1, u2, u3, u4⟩ := upd_fields hgT hdT 3 Value.none
  have nb : ∀ b, ¬ lo b → b ≠ T := fun b hb z => hb (by rw [z]; exact hT)
  refine wpAny_setField hgT hdT hs3 (h _ ⟨fun b o q _ _ n3 => (oth b (nb b n3)).trans q, fun b o q _ _ n3 => ⟨o.slots, (oth b (nb b n3)).trans q⟩, fun b o q => ?_⟩ ?_)
  · by_cases hb : b = T
    · subst hb; exact ⟨_, u1⟩
    · exact ⟨o, (oth b hb).trans q⟩
  · exact ⟨oe, vs, T, _, _, (oth e (Ne.symm nT)).trans he, hc, hdx, hd, h1, hT, nT, u1, u2, by simp [hs3]⟩
end

section
variable {X : Cx} {pins : List (Addr × Obj)} {σ : St} {H : Hp} {s : Shared} {e : Addr}
theorem ObjOk.there {P : Program} {w : World} {H : Hp} {h : Heap} {a : Addr} {o : HO} (x : ObjOk P w H h a o) : ∃ ob, h.get? a = some ob := by
  induction o with
  | lst xs => obtain ⟨_, _, _, _, q⟩ := x; exact ⟨_, q⟩
  | tup xs => obtain ⟨_, _, _, ob, q, _⟩ := x; exact ⟨ob, q⟩
  | dK kvs => obtain ⟨_, _, _, _, ob, _, _, q, _⟩ := x; exact ⟨ob, q⟩
  | dT kvs => obtain ⟨_, _, _, _, ob, _, _, q, _⟩ := x; exact ⟨ob, q⟩
  | set S n => obtain ⟨ob, _, _, _, q, _⟩ := x; exact ⟨ob, q⟩
  | ins C dx fs => obtain ⟨_, _, _, q, _⟩ := x; exact ⟨_, q⟩
  | own y => exact x
  | xd fs => obtain ⟨_, ⟨ob, _, _, q, _⟩, _⟩ := x; exact ⟨ob, q⟩
  | rng lo hi => obtain ⟨_, _, _, q⟩ := x; exact ⟨_, q⟩
  | frz ob u ih => exact ⟨ob, x.1⟩
  | tbl ps => exact ⟨_, x⟩
  | met f y => exact ⟨_, x⟩
  | ext φ => exact x.2.1
/-- an address of the exception's own: not tracked, not of the frame's, unknown at the entry -/
def XFp (X : Cx) (pins : List (Addr × Obj)) (H : Hp) (b : Addr) : Prop :=
  H b = none ∧ b ≠ X.env.locals ∧ b ∉ X.fs ∧ X.s₀.heap.get? b = none ∧ (∀ x c, X.env.cells.lookup x = some c → c ≠ b) ∧ ∀ p ∈ X.pn ++ pins, p.1 ≠ b
theorem Inv.xfp (I : Inv X pins σ H s) (hx : X.ex = []) {b : Addr} (hb : s.heap.get? b = none) : XFp X pins H b := by
  refine ⟨?_, fun z => ?_, fun z => ?_, ?_, fun x c q z => ?_, fun p hp z => ?_⟩
  · cases q : H b with
    | none => rfl
    | some o =>
      obtain ⟨ob, r⟩ := (I.hok b o q).there
      rw [hb] at r; cases r
  · obtain ⟨m, ⟨o, _, _, r, _⟩, _⟩ := I.loc
    rw [← z, hb] at r; cases r
  · obtain ⟨_, o, r, _⟩ := I.funs.mem z
    rw [hb] at r; cases r
  · cases q : X.s₀.heap.get? b with
    | none => rfl
    | some o =>
      obtain ⟨o', r⟩ := I.base.there b o q (by rw [hx]; simp)
      rw [hb] at r; cases r
  · obtain ⟨v, o, r, _⟩ := I.cell x c q
    rw [z, hb] at r; cases r
  · obtain ⟨r, _⟩ := I.pin p hp
    rw [z, hb] at r; cases r
/-- a note leaves the frame's state -/
theorem Inv.noted {lo : Addr → Prop} {h' : Heap} (I : Inv X pins σ H s) (n : Noted (frs X.stack) e lo s.heap h') (hlo : ∀ b, (b = e ∨ lo b) → XFp X pins H b ∨ s.heap.get? b = none) : Inv X pins σ H { s with heap := h' } := by
  have off : ∀ b o, s.heap.get? b = some o → (¬ XFp X pins H b) → b ≠ e ∧ ¬ lo b := fun b o q nx =>
    ⟨fun z => (hlo b (.inl z)).elim nx fun r => (by rw [r] at q; cases q), fun z => (hlo b (.inr z)).elim nx fun r => (by rw [r] at q; cases q)⟩
  have any : ∀ b o, s.heap.get? b = some o → (¬ XFp X pins H b) → ∃ sl, h'.get? b = some { o with slots := sl } := fun b o q nx => by
    obtain ⟨n1, n2⟩ := off b o q nx
    by_cases hb : b ∈ frs X.stack
    · exact n.slot b o q hb n1 n2
    · exact ⟨o.slots, n.keep b o q hb n1 n2⟩
  have s0 : ∀ b o, X.s₀.heap.get? b = some o → ¬ XFp X pins H b := fun b o q x => by rw [x.2.2.2.1] at q; cases q
  have neL : ∀ b o, X.s₀.heap.get? b = some o → b ≠ X.env.locals := fun b o q => Nat.ne_of_lt (Nat.lt_of_lt_of_le (Heap.lt_size q) I.ok.above)
  have nst : ∀ b, b ≠ X.env.locals → b ∉ X.fs → b ∉ frs X.stack := fun b n1 n2 z => (List.mem_cons.mp (I.stkSub b z)).elim n1 n2
  have trk : ∀ b o, H b = some o → ¬ XFp X pins H b := fun b o q x => by rw [x.1] at q; cases q
  have trkf : ∀ b o, H b = some o → b ∉ frs X.stack := fun b o q z => by rw [I.stkFree b z] at q; cases q
  have cl : ∀ x c, X.env.cells.lookup x = some c → ∀ v, s.heap.IsCell c v → h'.IsCell c v := fun x c q v ⟨o, ho, hd⟩ => by
    obtain ⟨sl, r⟩ := any c o ho fun z => z.2.2.2.2.1 x c q rfl
    exact ⟨_, r, hd⟩
  refine ⟨I.ok, I.os, I.bare, ⟨fun b o q nn hb hx => ?_, fun b o q nn hb hx => ?_, I.base.free, fun b o q hx => ?_, I.base.tups, I.base.frzs, I.base.tbls⟩, ?_, fun x c q => ?_, I.free, I.freeC, fun p hp => ?_, fun a o q => ?_, I.len⟩
  · have q1 := I.base.keep b o q nn hb hx
    obtain ⟨n1, n2⟩ := off b o q1 (s0 b o q)
    exact n.keep b o q1 (nst b (neL b o q) hb) n1 n2
  · obtain ⟨sl, q1⟩ := I.base.slot b o q nn hb hx
    obtain ⟨sl2, q2⟩ := any b _ q1 (s0 b o q)
    exact ⟨sl2, q2⟩
  · obtain ⟨o1, q1⟩ := I.base.there b o q hx
    exact n.there b o1 q1
  · obtain ⟨m, ⟨ob, es, ep, ho, r⟩, hl⟩ := I.loc
    obtain ⟨sl, q1⟩ := any _ ob ho fun z => z.2.1 rfl
    refine ⟨m, ⟨_, es, ep, q1, r⟩, fun i x v e1 e2 e3 => ?_⟩
    obtain ⟨u, ru, l⟩ := hl i x v e1 e2 e3
    refine ⟨u, ru, ?_⟩
    rcases l with l | ⟨k, c, hc, z⟩
    · exact .inl l
    · exact .inr ⟨k, c, hc, cl x c hc _ z⟩
  · obtain ⟨v, z⟩ := I.cell x c q
    exact ⟨v, cl x c q v z⟩
  · obtain ⟨q, nn, n1, n2, d⟩ := I.pin p hp
    obtain ⟨m1, m2⟩ := off p.1 p.2 q fun z => z.2.2.2.2.2 p hp rfl
    exact ⟨n.keep p.1 p.2 q (nst p.1 n1 n2) m1 m2, nn, n1, n2, d⟩
  · refine (I.hok a o q).stay (fun b u hb r => ?_) (fun _ z => z) fun _ _ z => z
    rcases hb with rfl | hb
    · obtain ⟨m1, m2⟩ := off b u r (trk b o q)
      exact n.keep b u r (trkf b o q) m1 m2
    · obtain ⟨m1, m2⟩ := off b u r (trk b _ hb)
      exact n.keep b u r (trkf b _ hb) m1 m2

/-- how an exception lies behind a call -/
def CX1 (P : Program) (w : World) : CXT := fun outer H s E ev s' => ∃ (e : Addr) (cls : Value) (dx : Option Addr) (H' : Hp), ev = .ref e ∧ s'.os = s.os ∧ AllBare s'.gens ∧ Un (frs outer) [] H H' s.heap s'.heap ∧ HOk P w H' s'.heap ∧
  s.heap.get? e = none ∧ H' e = none ∧ XObj s'.heap e cls dx (fun T => s.heap.get? T = none ∧ H' T = none) (some .none) ∧ E cls dx H'
/-- exceptions that fulfil E may come up in this body, at a state of the frame -/
def Rz (X : Cx) (E : St → XK) : Prop := ∀ (pins : List (Addr × Obj)) (σ : St) (H : Hp) (s : Shared) (e : Addr) (cls : Value) (dx : Option Addr) (fl : Option Value), (fl = none ∨ fl = some .none) → Inv X pins σ H s → XFp X pins H e →
  XObj s.heap e cls dx (XFp X pins H) fl → E σ cls dx H → X.xe (.ref e) s
theorem XObj.imp {h : Heap} {e : Addr} {cls : Value} {dx : Option Addr} {lo lo' : Addr → Prop} {f : Option Value} (x : XObj h e cls dx lo f) (k : ∀ T, (∃ o, h.get? T = some o) → lo T → lo' T) : XObj h e cls dx lo' f := by
  cases f with
  | none => exact x
  | some f =>
    obtain ⟨oe, vs, T, oT, ts, he, hc, hdx, hd, h1, hT, nT, hgT, r⟩ := x
    exact ⟨oe, vs, T, oT, ts, he, hc, hdx, hd, h1, k T ⟨oT, hgT⟩ hT, nT, hgT, r⟩
/-- a callee's exception reaches the body's wish -/
theorem passes1 {E : St → XK} {σ : St} (hx : X.ex = []) (R : Rz X E) {pins : List (Addr × Obj)} {H : Hp} {s s' : Shared} {ev : Value} (I : Inv X pins σ H s) (c : CX1 X.prog X.w X.stack H s (E σ) ev s') : X.xe ev s' := by
  obtain ⟨e, cls, dx, H', rfl, ho, hg, u, hok, ne, he, x, q⟩ := c
  have I' : Inv X pins σ H' s' := I.call' (ch := []) ho u hok hg (fun b hb => by cases hb)
  have fp : ∀ T, s.heap.get? T = none → H' T = none → XFp X pins H' T := fun T h1 h2 => by
    obtain ⟨_, a2, a3, a4, a5, a6⟩ := I.xfp hx h1
    exact ⟨h2, a2, a3, a4, a5, a6⟩
  exact R pins σ H' s' e cls dx _ (.inr rfl) I' (fp e ne he) (x.imp fun T _ z => fp T z.1 z.2) q
/-- .. leaves a def's body -/
theorem rz_leave {P : Program} {w : World} {K : PySem.W.Frag} {mg : Str → Option Value} {base : Heap} {N : List Str} {qual : Str} {scope : Scope} {f : Addr} {cd : Value} {A : Around} {outer : List Env} {s : Shared} {H : Hp} {E : XK} :
    Rz (cxOf (CX1 P w) P w K mg base N qual scope f cd A outer s H E) (fun _ => E) := by
  intro pins σ H1 s1 e cls dx fl hfl I fe x q
  show wpAny (model P w) _ (leaving _ (.ref e)) _ _ s1
  unfold leaving
  have lo1 : ∀ b, (b = e ∨ (XFp (cxOf (CX1 P w) P w K mg base N qual scope f cd A outer s H E) pins H1 b ∨ s1.heap.get? b = none)) → XFp (cxOf (CX1 P w) P w K mg base N qual scope f cd A outer s H E) pins H1 b ∨ s1.heap.get? b = none := fun b z => z.elim (fun z => .inl (by rw [z]; exact fe)) fun z => z
  have stk : (cxOf (CX1 P w) P w K mg base N qual scope f cd A outer s H E).A.frames = some ((cxOf (CX1 P w) P w K mg base N qual scope f cd A outer s H E).env :: outer) := I.ok.frames
  refine wpAny_bind (xnote (base := base) (lo := fun T => XFp (cxOf (CX1 P w) P w K mg base N qual scope f cd A outer s H E) pins H1 T ∨ s1.heap.get? T = none) hfl stk I.stack rfl (x.imp fun T _ z => .inl z) (fun T z => .inr z) fun h1 n1 x1 => ?_)
  refine xland (fr := frs ((cxOf (CX1 P w) P w K mg base N qual scope f cd A outer s H E).env :: outer)) x1 fun h2 n2 x2 => ?_
  have I2 : Inv (cxOf (CX1 P w) P w K mg base N qual scope f cd A outer s H E) pins σ H1 { s1 with heap := h2 } := I.noted (n1.trans n2) lo1
  refine ⟨e, cls, dx, H1, rfl, I2.os, I2.bare, I2.base, I2.hok, fe.2.2.2.1, fe.1, x2.imp fun T _ z => ?_, q⟩
  rcases z with z | z
  · exact ⟨z.2.2.2.1, z.1⟩
  · have y := I.xfp rfl z
    exact ⟨y.2.2.2.1, y.1⟩
end
end L2
set_option Elab.async false
set_option linter.all false
set_option maxRecDepth 100000
set_option maxHeartbeats 4000000
namespace L2
open PySem PySem.Spec PyProof.Rows

/-! ### calls that may raise -/
def FnAtX (P : Program) (w : World) (K : PySem.W.Frag) (mg : Str → Option Value) (base : Heap) (k : Nat) (x : Str) (ps : List Str) (sp : Sp) : Prop :=
  ∃ f fd, FnOk P w K mg base (CX1 P w) k f fd ps sp ∧ mg x = some (.ref f) ∧ PySem.W.keepIn K (.ref f) = true ∧ Binds K fd ps []
def tCallX (sp : Sp) (E : St → XK) (t : TA) : TE := fun σ H Q => t σ H fun vs H1 => sp vs H1 Q (E σ)
section
variable {X : Cx} {k : Nat} {x : Str} {ps : List Str} {sp : Sp} {e : Expr} {es : List Expr} {t : TA} {p pos : Pos} {E : St → XK}
theorem pe_fnX (F : FnAtX X.prog X.w X.K X.mg X.base k x ps sp) (hx : X.ex = []) (R : Rz X E) (hr : Room k X.A) (hg : Gl X x) (ha : PA X (e :: es) t) (hd : (x == ("__debug__" : Str)) = false := by decide)
    (he : starEach (e :: es) X.env = (false, eval e X.env) :: starEach es X.env := by rfl) (hpl : (backTo pos (starEach es X.env)).any (·.1) = false := by rfl) :
    PE X (.Call (.Name x p) (e :: es) [] pos) (tCallX sp E t) := by
  obtain ⟨f, fd, G, hm, hk, hb⟩ := F
  intro pins s σ H Q I h
  refine wpAny_Call_Name_kw (ld_glob I hg hm ?_ hd)
  refine PySem.W.callWith_K (h₀ := X.base) I.ok.mod.kin hk (thn (ha pos pins s σ H _ I h) fun us s1 ⟨vs, H1, I1, r, q⟩ => ⟨I1.kIn, ?_⟩) he hpl
  have hlen : us.length = ps.length := by rw [← r.length]; exact G.len _ _ _ _ q
  have hbd := hb s1 us I1.kIn (by rw [List.append_nil]; exact hlen)
  rw [List.append_nil] at hbd
  refine wpAny_call (codeAny_mono (G.run X.A X.stack s1 H1 ⟨us, []⟩ us vs Q (E σ) hr I1.env0 hbd r q) fun res s' hq => ?_)
  match res, hq with
  | .error ev, hq => exact passes1 hx R I1 hq
  | .ok (.ret u), hq => exact I1.after hq
end
section
variable {P : Program} {w : World} {K : PySem.W.Frag} {mg : Str → Option Value} {base : Heap}
/-- a def whose exceptions leave it -/
theorem Fun.okX {x qual : Str} {st : Stmt} {f : Addr} {fd : FuncData} {N ps : List Str} {k : Nat} {sp : Sp} (F : Fun K x qual st f fd) (S : FnScope N ps (defScope st)) (len : ∀ vs H Q E, sp vs H Q E → vs.length = ps.length)
    (hbody : ∀ (cdv : Value) (A : Around) (outer : List Env) (s : Shared) (H : Hp) (vs : List V) (Q : VK) (E : XK), Room k (A.deeper (envOfC qual (defScope st) s.heap.objs.size f cdv)) → sp vs H Q E →
      Rz (cxOf (CX1 P w) P w K mg base N qual (defScope st) f cdv A outer s H E) (fun _ => E) →
      ∃ t, PSs (cxOf (CX1 P w) P w K mg base N qual (defScope st) f cdv A outer s H E) (defBody st) t ∧ t { nx := fun _ H' => Q .non H', rt := Q } (start N vs) H) : FnOk P w K mg base (CX1 P w) (k + 1) f fd ps sp := by
  obtain ⟨oc, od, kV, doc, pm, an, cdv, ct, osl, rfl, lk, hcd⟩ := F.ex
  exact fn_of lk hcd S len fun A outer s H vs Q E hr hsp => hbody cdv A outer s H vs Q E hr hsp rz_leave
end

/-! ### raise C(..), C an own class without an __init__ -/
theorem exc_obj {K : PySem.W.Frag} {h : Heap} {C : Addr} {bmB : List Value} {newId : String} (X : K.In h) (q : PySem.W.excIn K C bmB newId = true) :
    ∃ bm N nm qn bs hdct sn sub ab col dd k0 k1 k2 k3 k5 mN, h.get? C = some (excClassObj nm qn C N bs bm hdct sn sub ab col dd k0 k1 k2 k3 k5 newId) ∧ h.Ns N mN ∧ mN "__init__" = none ∧ OwnTail h bmB bm := by
  unfold PySem.W.excIn at q
  split at q
  · rename_i d0 c0 s0 lk
    split at q
    · rename_i C1 tl a0 a1 a2 a3 nn a5 em es
      simp only [Bool.and_eq_true, beq_iff_eq, Bool.not_eq_true'] at q
      obtain ⟨⟨⟨⟨⟨e1, e2⟩, e3⟩, e4⟩, e5⟩, e6⟩ := q
      subst e1 e2
      obtain ⟨f1, f2, f3, f4, f5, f6, f7, f8, f9, f10, f11⟩ := c0
      dsimp only at em e3 e5 e6
      subst em e3
      have ez : s0 = #[a0, a1, a2, a3, some (.builtin nn), a5] := by
        obtain ⟨l⟩ := s0
        simp only at es
        rw [es]
      subst ez
      exact ⟨tl, f4, _, _, _, _, _, _, _, _, _, _, _, _, _, _, _, X _ _ lk, .of_isNs (PySem.W.isNs_of_in X e5), PySem.W.nsMap_none_of_in X e5 e6, PySem.W.tail_of_in X e4⟩
    · cases q
  · cases q
def tRaise (cls : Value) (E : St → XK) (ta : TA) : TS := fun _ σ H => ta σ H fun vs H1 => vs.length ≤ sizeLine ∧ E σ cls none H1
section
variable {X : Cx} {E : St → XK} {x : Str} {C : Addr} {B newId initId : String} {bmB : List Value} {e0 : Expr} {rest : List Expr} {ta : TA} {np cpos pos : Pos}
theorem ps_raise (FB : ExcBaseFacts B newId initId bmB) (q : PySem.W.excIn X.K C bmB newId = true) (hm : X.mg x = some (.ref C)) (hg : Gl X x) (hc : X.calm = true) (hx : X.ex = []) (R : Rz X E) (ha : PA X (e0 :: rest) ta)
    (he : starEach (e0 :: rest) X.env = (false, eval e0 X.env) :: starEach rest X.env := by rfl) (hplain : (backTo cpos (starEach rest X.env)).any (·.1) = false := by rfl) (hd : (x == ("__debug__" : Str)) = false := by decide) :
    PS X (.Raise (some (.Call (.Name x np) (e0 :: rest) [] cpos)) none pos) (tRaise (.ref C) E ta) := by
  intro pins s σ H D I h
  obtain ⟨bm, N, nm, qn, bs, hdct, sn, sub, ab, col, dd, k0, k1, k2, k3, k5, mN, hC, hN, hni, T⟩ := exc_obj I.ok.mod.kin q
  refine wpAny_Raise_call_subT (k5 := k5) (k3 := k3) (k2 := k2) (k1 := k1) (k0 := k0) (dd := dd) (col := col) (ab := ab) (sub := sub) (sn := sn) (hdct := hdct) (bs := bs) (q := qn) (nm := nm)
    (C := C) (N := N) (bm := bm) (mN := mN) FB (T.hasType FB.hasBase) (I.ok.hd hc) (by rw [he]; show (false || (backTo cpos (starEach rest X.env)).any (·.1)) = false; rw [hplain]; rfl) hni (ld_glob I hg hm ⟨rfl, ?_⟩ hd)
  have h2 := ha cpos pins s σ H _ I h
  rw [he] at h2 ⊢
  refine Calls.evalArgs_plain (thn h2 fun us s1 ⟨vs, H1, I1, r, hl, hE⟩ => ⟨rfl, by rw [← r.length]; exact hl, I1.bk _ _ hC, hN.keeps I1.bk, T.keeps I1.bk, fun h' e mk => ?_⟩)
  obtain ⟨t, ht, _, _⟩ := mk.there
  have I2 : Inv X pins σ H1 { s1 with heap := h' } := I1.kept (t' := s1.toks) mk.keeps
  exact R pins σ H1 _ e (.ref C) none none (.inl rfl) I2 (I1.xfp hx mk.new) ⟨_, _, ht, rfl, rfl, rfl, rfl⟩ hE
end

/-! ### try: .. except C as n: .. -/
/-- the exception as the handler knows it -/
def XO (C : Addr) (dx : Option Addr) (e : Addr) : HO := .ext fun h => ∃ oe vs, h.get? e = some oe ∧ oe.cls = .ref C ∧ oe.dict = dx ∧ oe.data = .fields vs
/-- the context within the handler -/
def cxHand (X : Cx) (e : Addr) : Cx := { X with A := X.A.mark (some (.ref e)), calm := false, xe := fun _ _ => False }
/-- the context of the tried suite -/
def cxTry (X : Cx) (pins : List (Addr × Obj)) (xe : Value → Shared → Prop) : Cx := { X with pn := X.pn ++ pins, xe := xe }
section
variable {X : Cx} {pins : List (Addr × Obj)} {σ : St} {H : Hp} {s : Shared}
theorem Inv.toTry (I : Inv X pins σ H s) (xe : Value → Shared → Prop) : Inv (cxTry X pins xe) [] σ H s :=
  ⟨⟨I.ok.mod, I.ok.kind, I.ok.glob, I.ok.blt, I.ok.above, I.ok.inj, I.ok.has, I.ok.cab, I.ok.hd, I.ok.frames, I.ok.stk, I.ok.exf, I.ok.bs, I.ok.bsz, I.ok.noex, I.ok.exfs, I.ok.funs, I.ok.frf⟩, I.os, I.bare, I.base, I.loc, I.cell, I.free, I.freeC,
    fun p hp => I.pin p (by rw [List.append_nil] at hp; exact hp), I.hok, I.len⟩
theorem Inv.ofTry {xe : Value → Shared → Prop} {pins' : List (Addr × Obj)} (I : Inv (cxTry X pins xe) pins' σ H s) : Inv X pins σ H s :=
  ⟨⟨I.ok.mod, I.ok.kind, I.ok.glob, I.ok.blt, I.ok.above, I.ok.inj, I.ok.has, I.ok.cab, I.ok.hd, I.ok.frames, I.ok.stk, I.ok.exf, I.ok.bs, I.ok.bsz, I.ok.noex, I.ok.exfs, I.ok.funs, I.ok.frf⟩, I.os, I.bare, I.base, I.loc, I.cell, I.free, I.freeC,
    fun p hp => I.pin p (List.mem_append_left _ hp), I.hok, I.len⟩
theorem Inv.toHand (I : Inv X pins σ H s) (e : Addr) : Inv (cxHand X e) pins σ H s :=
  ⟨⟨I.ok.mod, I.ok.kind, I.ok.glob, I.ok.blt, I.ok.above, I.ok.inj, I.ok.has, I.ok.cab, fun z => (by cases z), I.ok.frames, I.ok.stk, I.ok.exf, I.ok.bs, I.ok.bsz, I.ok.noex, I.ok.exfs, I.ok.funs, I.ok.frf⟩, I.os, I.bare, I.base, I.loc, I.cell, I.free, I.freeC,
    I.pin, I.hok, I.len⟩
theorem Inv.ofHand {e : Addr} (I : Inv (cxHand X e) pins σ H s) (hd : X.calm = true → X.A.handled = none) : Inv X pins σ H s :=
  ⟨⟨I.ok.mod, I.ok.kind, I.ok.glob, I.ok.blt, I.ok.above, I.ok.inj, I.ok.has, I.ok.cab, hd, I.ok.frames, I.ok.stk, I.ok.exf, I.ok.bs, I.ok.bsz, I.ok.noex, I.ok.exfs, I.ok.funs, I.ok.frf⟩, I.os, I.bare, I.base, I.loc, I.cell, I.free, I.freeC,
    I.pin, I.hok, I.len⟩
/-- an exception is tracked -/
theorem Inv.track {e C : Addr} {dx : Option Addr} {lo : Addr → Prop} {fl : Option Value} (I : Inv X pins σ H s) (hx : X.ex = []) (fe : XFp X pins H e) (x : XObj s.heap e (.ref C) dx lo fl) : Inv X pins σ (upd H e (XO C dx e)) s := by
  obtain ⟨f1, f2, f3, f4, f5, f6⟩ := fe
  obtain ⟨oe, vs, q, hc, hdx, hd⟩ := x.there
  have ne : ∀ b o, H b = some o → b ≠ e := fun b o r => ne_of_none r f1
  refine ⟨I.ok, I.os, I.bare, ⟨I.base.keep, I.base.slot, fun b o r n hh => ?_, I.base.there, fun b xs r => ?_, fun b o u r => ?_, fun b ps r => ?_⟩, I.loc, I.cell, ?_, fun y c r => ?_, fun p hp => ?_, fun a o r => ?_, I.len⟩
  · rw [upd_ne (fun z => by rw [z, f4] at r; cases r)]
    exact I.base.free b o r n hh
  · have r2 := I.base.tups b xs r
    rw [upd_ne (ne b _ r2)]; exact r2
  · have r2 := I.base.frzs b o u r
    rw [upd_ne (ne b _ r2)]; exact r2
  · obtain ⟨m, r2⟩ := I.base.tbls b ps r
    exact ⟨m, by rw [upd_ne (ne b _ r2)]; exact r2⟩
  · rw [upd_ne (Ne.symm f2)]; exact I.free
  · rw [upd_ne (f5 y c r)]; exact I.freeC y c r
  · obtain ⟨a1, a2, a3⟩ := I.pin p hp
    exact ⟨a1, by rw [upd_ne (f6 p hp)]; exact a2, a3⟩
  · by_cases ha : a = e
    · subst ha
      rw [upd_same] at r
      cases r
      exact ⟨⟨oe, vs, q, hc, hdx, hd⟩, ⟨oe, q⟩, fun h1 h2 ⟨o1, v1, p1, p2⟩ k => ⟨o1, v1, k _ p1, p2⟩⟩
    · rw [upd_ne ha] at r
      refine (I.hok a o r).stay (fun _ _ _ z => z) (fun b z => by rw [upd_ne (ne b _ z)]; exact z) fun b ys z => by rw [upd_ne (ne b _ z)]; exact z
end

section
variable {M : Model} {A : Around} {Er : Value → Shared → Prop} {s : Shared} {K : PySem.W.Frag} {e C D : Addr}
/-- does the exception match an own class? -/
theorem matches_own {oe : Obj} {b : Bool} {Q : Bool → Shared → Prop} (X : K.In s.heap) (he : s.heap.get? e = some oe) (hc : oe.cls = .ref C) (hD : (PySem.W.clsIn K D).isSome = true) (hty : PySem.W.typeIn K (.ref D) = some (.type "type"))
    (hB : PySem.W.subIn K (.ref D) (.type "BaseException") = some true) (hs : PySem.W.subIn K (.ref C) (.ref D) = some b) (hq : Q b s) : wpAny M A (excMatches (.ref e) (.ref D)) Q Er s := by
  obtain ⟨hh, g, d, t, os⟩ := s
  have L1 : PySem.W.Looks M hh (typeOf (.ref D)) (.type "type") := PySem.W.looks_typeIn X hty
  have L2 : PySem.W.Looks M hh (isSubtype (.ref D) (.type "BaseException")) true := PySem.W.looks_subIn X hB
  have L3 : PySem.W.Looks M hh (isSubtype (.ref C) (.ref D)) b := PySem.W.looks_subIn X hs
  have L4 : PySem.W.Looks M hh (isType (.ref D)) true := by
    unfold PySem.W.clsIn at hD
    split at hD
    · rename_i c' d' cd' sl' ho
      intro A' Q' E' s' k q
      unfold isType loadHead
      exact wpAny_bind (wpAny_loadPart (k _ _ (X _ _ ho)) (wpAny_pure q))
    · cases hD
  have f := tc_notTuple
  unfold excMatches isExcClass isInstance
  refine wpAny_bind (wpAny_bind (L1.at ?_))
  refine wpAny_of_eq f ?_
  rw [if_neg (by decide)]
  refine wpAny_bind (wpAny_pure ?_)
  simp only [List.forIn_cons, List.forIn_nil]
  refine wpAny_bind (wpAny_bind (wpAny_bind (wpAny_bind (L4.at ?_))))
  rw [if_pos rfl]
  refine L2.at ?_
  simp only [Bool.not_true, Bool.false_eq_true, if_false]
  refine wpAny_pure (wpAny_pure ?_)
  have L0 : PySem.W.Looks M hh (typeOf (.ref e)) (.ref C) := by
    intro A' Q' E' s' k q
    unfold typeOf
    refine wpAny_bind (wpAny_loadPart (k _ _ he) ?_)
    rw [hc]
    exact wpAny_pure q
  refine wpAny_bind (L0.at ?_)
  refine wpAny_bind (wpAny_bind (wpAny_bind (L3.at ?_)))
  cases b with
  | true => exact wpAny_pure (wpAny_pure (wpAny_pure hq))
  | false => exact wpAny_pure (wpAny_pure (wpAny_pure hq))
end
end L2
set_option Elab.async false
set_option linter.all false
set_option maxRecDepth 100000
set_option maxHeartbeats 4000000
namespace L2
open PySem PySem.Spec PyProof.Rows
section
variable {X : Cx} {pins : List (Addr × Obj)} {σ : St} {H : Hp} {s : Shared}
/-- the handler's name is let go -/
theorem Inv.gone {i : Nat} {n : Str} {m : Str → Option Value} {v : Option Value} {h' : Heap} {t : Nat} (I : Inv X pins σ H s) (hN : X.N.Nodup) (hi : X.N[i]? = some n)
    (hm : ∀ (j : Nat) (x : Str) (u : V), X.N[j]? = some x → σ[j]? = some (some u) → Vis X.env.scope x → ∃ w', RelV u w' ∧ Look X.env s.heap m x w')
    (hn : h'.Ns X.env.locals (fun x => if x = n then v else m x)) (sb : Heap.SameBut X.env.locals s.heap h') : Inv X pins (σ.set i none) H { s with heap := h', toks := t } := by
  have neL : ∀ b o, X.s₀.heap.get? b = some o → b ≠ X.env.locals := fun b o q => Nat.ne_of_lt (Nat.lt_of_lt_of_le (Heap.lt_size q) I.ok.above)
  have cl : ∀ x c, X.env.cells.lookup x = some c → ∀ w', s.heap.IsCell c w' → h'.IsCell c w' := fun x c q w' ⟨o, ho, hd⟩ => ⟨o, (sb.2 c (I.cne x c q)).trans ho, hd⟩
  have trk : ∀ b o, H b = some o → b ≠ X.env.locals := fun b o q => ne_of_none q I.free
  refine ⟨I.ok, I.os, I.bare, ⟨fun b o q nn hb hx => (sb.2 b (neL b o q)).trans (I.base.keep b o q nn hb hx), fun b o q nn hb hx => ?_, I.base.free, fun b o q hx => ?_, I.base.tups, I.base.frzs, I.base.tbls⟩, ⟨_, hn, fun j x u e1 e2 e3 => ?_⟩, fun x c q => ?_, I.free, I.freeC, fun p hp => ?_, fun a o q => ?_, ?_⟩
  · obtain ⟨sl, r⟩ := I.base.slot b o q nn hb hx
    exact ⟨sl, (sb.2 b (neL b o q)).trans r⟩
  · obtain ⟨o', r⟩ := I.base.there b o q hx
    exact ⟨o', (sb.2 b (neL b o q)).trans r⟩
  · have hji : j ≠ i := by
      rintro rfl
      by_cases hlt : j < σ.length
      · rw [List.getElem?_set_self hlt] at e2
        cases e2
      · rw [List.getElem?_eq_none (by rw [List.length_set]; omega)] at e2
        cases e2
    rw [List.getElem?_set_ne (Ne.symm hji)] at e2
    obtain ⟨w', r, l⟩ := hm j x u e1 e2 e3
    refine ⟨w', r, ?_⟩
    have hxn : x ≠ n := fun z => hji (nodup_ix hN e1 (by rw [z]; exact hi))
    rcases l with ⟨k, q⟩ | ⟨k, c, hc, z⟩
    · exact .inl ⟨k, by show (if x = n then v else m x) = some w'; rw [if_neg hxn]; exact q⟩
    · exact .inr ⟨k, c, hc, cl x c hc _ z⟩
  · obtain ⟨w', z⟩ := I.cell x c q
    exact ⟨w', cl x c q w' z⟩
  · obtain ⟨q, nn, n1, r⟩ := I.pin p hp
    exact ⟨(sb.2 p.1 n1).trans q, nn, n1, r⟩
  · refine (I.hok a o q).stay (fun b u hb r => ?_) (fun _ z => z) fun _ _ z => z
    rcases hb with rfl | hb
    · exact (sb.2 b (trk b o q)).trans r
    · exact (sb.2 b (trk b _ hb)).trans r
  · show (σ.set i none).length = X.N.length
    rw [List.length_set]
    exact I.len
theorem name_gone {M : Model} {A : Around} {E : Value → Shared → Prop} {i : Nat} {n : Str} {pos : Pos} {Q : Unit → Shared → Prop} (I : Inv X pins σ H s) (hN : X.N.Nodup) (hi : X.N[i]? = some n) (hl : X.env.kindOf n = some .local)
    (h : ∀ s', Inv X pins (σ.set i none) H s' → Q () s') : wpAny M A (do bindName X.env n .none; unbindBehindTheSuite X.env n pos) Q E s := by
  obtain ⟨m, hn, hm⟩ := I.loc
  exact wpAny_nameGoes_keeps hl hn (by rw [I.ok.kind]; rfl) fun h' v hn' sb => h _ (I.gone hN hi hm hn' sb)
end

/-- what the handler is to reach: its name is let go behind it -/
def endH (D : Ends) (i : Nat) : Ends := { nx := fun σ H => D.nx (σ.set i none) H, rt := D.rt, bk := fun σ H => D.bk (σ.set i none) H, ct := fun σ H => D.ct (σ.set i none) H }
def tTry (K : PySem.W.Frag) (i : Nat) (Dc : Addr) (tb : (St → XK) → TS) (th : TS) : TS := fun D σ H =>
  tb (fun σ1 cls dx H1 => ∃ C, cls = .ref C ∧ PySem.W.subIn K (.ref C) (.ref Dc) = some true ∧ ∀ e, H1 e = none → th (endH D i) (σ1.set i (some (.ref e))) (upd H1 e (XO C dx e))) D σ H
/-- what of the text a class must have to be named by an except -/
structure XHd (K : PySem.W.Frag) (D : Addr) : Prop where
  cl : (PySem.W.clsIn K D).isSome = true
  ty : PySem.W.typeIn K (.ref D) = some (.type "type")
  bs : PySem.W.subIn K (.ref D) (.type "BaseException") = some true
section
variable {X : Cx} {body suite : List Stmt} {b0 : Stmt} {n cn : Str} {i : Nat} {Dc : Addr} {tb : (St → XK) → TS} {th : TS} {cp hpos pos : Pos}
theorem ps_try (hc : X.calm = true) (hx : X.ex = []) (hst : X.stack = X.env :: X.outer) (hfm : X.env.frame = some X.env.locals) (hN : X.N.Nodup) (hi : X.N[i]? = some n) (hl : X.env.kindOf n = some .local) (hg : Gl X cn) (hm : X.mg cn = some (.ref Dc)) (hD : XHd X.K Dc)
    (hb : ∀ (pn : List (Addr × Obj)) (xe : Value → Shared → Prop) (E : St → XK), PassesOwn (model X.prog X.w) X.A X.env xe → Rz { X with pn := pn, xe := xe } E → PSs { X with pn := pn, xe := xe } body (tb E))
    (hh : ∀ e, PSs (cxHand X e) (b0 :: suite) th) (hd : (cn == ("__debug__" : Str)) = false := by decide) :
    PS X (.Try body [.ExceptHandler (some (.Name cn cp)) (some n) (b0 :: suite) hpos] [] [] pos) (tTry X.K i Dc tb th) := by
  intro pins s σ H D I h
  refine wpAny_Try_except ?_
  refine wpAny_mono (hb (X.pn ++ pins) (fun e s₁ => wpAny (model X.prog X.w) X.A (noteFrame e X.env) (fun _ s₂ => wpAny (model X.prog X.w) X.A (setFlight e none) (fun _ s₃ => wpAny (model X.prog X.w) X.A (handleBy e X.env [.ExceptHandler (some (.Name cn cp)) (some n) (b0 :: suite) hpos]) (SP X pins D) X.xe s₃) X.xe s₂) X.xe s₁) _
    PassesOwn.looking ?_ [] s σ H D (I.toTry _) h) (fun f s1 q => ?_) fun _ _ q => q
  · -- an exception comes up
    intro pins' σ1 H1 s1 e cls dx fl hfl I1 fe x hE
    obtain ⟨C, rfl, hsub, hth⟩ := hE
    have lo1 : ∀ b, (b = e ∨ (XFp (cxTry X pins X.xe) pins' H1 b ∨ s1.heap.get? b = none)) → XFp (cxTry X pins X.xe) pins' H1 b ∨ s1.heap.get? b = none := fun b z => z.elim (fun z => .inl (by rw [z]; exact fe)) fun z => z
    have hfr : X.A.frames = some (X.env :: X.outer) := by rw [← hst]; exact I.ok.frames
    have hff : s1.heap.FunFrames X.base (X.env :: X.outer) := by rw [← hst]; exact I1.stack
    refine xnote (base := X.base) (lo := fun T => XFp (cxTry X pins X.xe) pins' H1 T ∨ s1.heap.get? T = none) hfl hfr hff hfm (x.imp fun T _ z => .inl z) (fun T z => .inr z) fun h1 n1 x1 => ?_
    refine xland (fr := frs (X.env :: X.outer)) x1 fun h2 n2 x2 => ?_
    have n12 : Noted (frs X.stack) e (fun T => XFp (cxTry X pins X.xe) pins' H1 T ∨ s1.heap.get? T = none) s1.heap h2 := by rw [hst]; exact n1.trans n2
    have I2 : Inv X pins σ1 H1 { s1 with heap := h2 } := (I1.noted n12 lo1).ofTry
    refine wpAny_handleBy_cons (codeAny_handlers_test (ld_glob (I2.toHand e) hg hm ?_ hd)) (by intro z; cases z)
    obtain ⟨oe, vs, q1, q2, q3, q4⟩ := x2.there
    refine matches_own (K := X.K) I2.kIn q1 q2 hD.cl hD.ty hD.bs hsub ?_
    rw [if_pos rfl]
    refine codeAny_handlers_suite_as ?_
    refine xland (fr := frs (X.env :: X.outer)) x2 fun h3 n3 x3 => ?_
    have n13 : Noted (frs X.stack) e (fun T => XFp (cxTry X pins X.xe) pins' H1 T ∨ s1.heap.get? T = none) s1.heap h3 := by rw [hst]; exact (n1.trans n2).trans n3
    have I3 : Inv X pins σ1 H1 { s1 with heap := h3 } := (I1.noted n13 lo1).ofTry
    have feX : XFp X pins H1 e := ⟨fe.1, fe.2.1, fe.2.2.1, fe.2.2.2.1, fe.2.2.2.2.1, fun p hp => fe.2.2.2.2.2 p (List.mem_append_left _ hp)⟩
    have I4 : Inv X pins σ1 (upd H1 e (XO C dx e)) { s1 with heap := h3 } := I3.track hx feX x3
    refine store_ok (X := cxHand X e) (I4.toHand e) hN hi (.inl hl) (v := .ref e) rfl (fun s5 I5 => ?_) (.inr hl)
    refine wpAny_mono (hh e pins s5 _ _ (endH D i) I5 (hth e fe.1)) (fun f s6 q6 => ?_) fun _ _ z => z.elim
    cases f with
    | next =>
      obtain ⟨σ6, H6, J6, r6⟩ := q6
      exact name_gone (J6.ofHand I.ok.hd) hN hi hl fun s7 J7 => ⟨_, H6, J7, r6⟩
    | brk =>
      obtain ⟨σ6, H6, J6, r6⟩ := q6
      exact name_gone (J6.ofHand I.ok.hd) hN hi hl fun s7 J7 => ⟨_, H6, J7, r6⟩
    | cont =>
      obtain ⟨σ6, H6, J6, r6⟩ := q6
      exact name_gone (J6.ofHand I.ok.hd) hN hi hl fun s7 J7 => ⟨_, H6, J7, r6⟩
    | ret u =>
      obtain ⟨v6, σ6, H6, J6, rv, r6⟩ := q6
      exact name_gone (J6.ofHand I.ok.hd) hN hi hl fun s7 J7 => ⟨v6, _, H6, J7, rv, r6⟩
  · cases f with
    | next => obtain ⟨σ1, H1, J, r⟩ := q; exact wpAny_execs_nil ⟨σ1, H1, J.ofTry, r⟩
    | brk => obtain ⟨σ1, H1, J, r⟩ := q; exact ⟨σ1, H1, J.ofTry, r⟩
    | cont => obtain ⟨σ1, H1, J, r⟩ := q; exact ⟨σ1, H1, J.ofTry, r⟩
    | ret u => obtain ⟨v, σ1, H1, J, rv, r⟩ := q; exact ⟨v, σ1, H1, J.ofTry, rv, r⟩
end

/-! ### isinstance of a caught exception -/
section
variable {X : Cx} {K : PySem.W.Frag}
theorem notCls_fields {o : Obj} {vs : Array Value} (h : o.data = .fields vs) : PySem.W.notCls o = true := by
  obtain ⟨c, d, dt, sl⟩ := o
  simp only at h
  subst h
  rfl
theorem xo_inst {C e : Addr} {P : Program} {w : World} {H : Hp} {h : Heap} (x : ObjOk P w H h e (XO C none e)) : ∃ ox odo, PySem.W.InstAt h e ox C odo := by
  obtain ⟨⟨oe, vs, q, hc, hd, hf⟩, _⟩ := x
  exact ⟨oe, none, ⟨q, hc, notCls_fields hf, by rw [hd]; trivial⟩⟩
theorem call_isX {c : Value} {cv : V} (hk : X.K = K) (rc : ∀ u, RelV cv u → u = c) : CallR X (.builtin "isinstance") (fun xs H Q => ∃ (e C : Addr) (b : Bool), xs = [.ref e, cv] ∧ H e = some (XO C none e) ∧ PySem.W.XCls K C ∧ PySem.W.kitOne K (.ref C) c = some b ∧ Q (.bl b) H) := by
  subst hk
  intro pins s σ H xs us Q I r h
  obtain ⟨e, C, b, rfl, he, xc, hb, q⟩ := h
  obtain ⟨u, w', rfl, r1, r2⟩ := vals2 r
  cases (show u = Value.ref e from r1)
  have := rc _ r2
  subst this
  exact PySem.W.kia_one (PySem.W.kitx_exc xc) I.kIn (xo_inst (I.hok e _ he)) hb (by intro z; cases z) fun tk => ⟨.bl b, H, I.tok _, rfl, q⟩
theorem vals_refs {cs : List Addr} : ∀ {us : List Value}, Vals (cs.map V.ref) us → us = cs.map Value.ref := by
  induction cs with
  | nil => intro us r; cases r; rfl
  | cons c cs ih =>
    intro us r
    cases r with
    | cons r rs => cases (show _ = Value.ref c from r); rw [ih rs]; rfl
end
end L2
set_option Elab.async false
set_option linter.all false
set_option maxRecDepth 100000
set_option maxHeartbeats 4000000
namespace L2
open PySem PySem.Spec PyProof.Rows
section
variable {X : Cx} {K : PySem.W.Frag}
/-- isinstance(e, (C1, C2, ..)) -/
theorem call_isXT (hk : X.K = K) : CallR X (.builtin "isinstance") (fun xs H Q => ∃ (e t C : Addr) (cs : List Addr) (b : Bool), xs = [.ref e, .ref t] ∧ H e = some (XO C none e) ∧ PySem.W.XCls K C ∧ H t = some (.tup (cs.map V.ref)) ∧
    PySem.W.kitAny K (.ref C) (cs.map Value.ref) = some b ∧ Q (.bl b) H) := by
  subst hk
  intro pins s σ H xs us Q I r h
  obtain ⟨e, t, C, cs, b, rfl, he, xc, ht, hb, q⟩ := h
  obtain ⟨u, w', rfl, r1, r2⟩ := vals2 r
  cases (show u = Value.ref e from r1)
  cases (show w' = Value.ref t from r2)
  obtain ⟨its, rv, ⟨o, ho, hc, m, hd⟩, hz⟩ := I.tuple (SqT.of ht)
  have ei := vals_refs rv
  subst ei
  obtain ⟨c0, d0, dt, sl⟩ := o
  simp only at hc hd
  subst hc hd
  exact PySem.W.kia_tup (PySem.W.kitx_exc xc) I.kIn (xo_inst (I.hok e _ he)) ho hb (by intro z; cases z) fun tk => ⟨.bl b, H, I.tok _, rfl, q⟩
end
/-- an exception's class against another one -/
structure XPair (K : PySem.W.Frag) (C D : Addr) (b : Bool) : Prop where
  ne : (Value.ref C == Value.ref D) = false
  sub : PySem.W.subIn K (.ref C) (.ref D) = some b
theorem kit_own {K : PySem.W.Frag} {C D : Addr} {b : Bool} (h : XHd K D) (p : XPair K C D b) : PySem.W.kitOne K (.ref C) (.ref D) = some b := by
  unfold PySem.W.kitOne
  rw [if_neg (by rw [p.ne]; decide)]
  show (if ((PySem.W.clsIn K D).isSome && PySem.W.typeIn K (.ref D) == some (.type "type")) = true then PySem.W.subIn K (.ref C) (.ref D) else none) = some b
  rw [if_pos (by rw [h.cl, h.ty]; rfl)]
  exact p.sub
theorem kit_same {K : PySem.W.Frag} {C : Addr} : PySem.W.kitOne K (.ref C) (.ref C) = some true := by
  unfold PySem.W.kitOne
  rw [if_pos (by simp)]
theorem kit_value {K : PySem.W.Frag} {C : Addr} {b : Bool} (h : PySem.W.subIn K (.ref C) (.type "ValueError") = some b) : PySem.W.kitOne K (.ref C) (.type "ValueError") = some b := by
  unfold PySem.W.kitOne
  rw [if_neg (by intro z; cases beq_iff_eq.mp z)]
  show (if PySem.W.kitMeta "ValueError" = true then PySem.W.subIn K (.ref C) (.type "ValueError") else none) = some b
  rw [if_pos (by decide +kernel)]
  exact h
theorem kitAny_none {K : PySem.W.Frag} {C : Addr} : ∀ {cs : List Addr}, (∀ D ∈ cs, PySem.W.kitOne K (.ref C) (.ref D) = some false) → PySem.W.kitAny K (.ref C) (cs.map Value.ref) = some false
  | [], _ => rfl
  | D :: cs, h => by
    show PySem.W.kitAny K (.ref C) (.ref D :: cs.map Value.ref) = some false
    unfold PySem.W.kitAny
    rw [h D List.mem_cons_self]
    exact kitAny_none fun D' hD => h D' (List.mem_cons_of_mem _ hD)
theorem bt_ValueError : bootBuiltins "ValueError" = some (.type "ValueError") := by kernel_rfl
end L2
namespace L2
open PySem
/-- a class of the text's that is raised; another one beside it -/
structure Xr (K : PySem.W.Frag) (mg : Str → Option Value) (C : Addr) (nm : Str) : Prop where
  bd : mg nm = some (.ref C)
  hd : XHd K C
  xc : PySem.W.XCls K C
  ex : PySem.W.excIn K C [.type "ValueError", .type "Exception", .type "BaseException", .type "object"] "ValueError.__new__" = true
  ve : PySem.W.subIn K (.ref C) (.type "ValueError") = some true
structure Xo (K : PySem.W.Frag) (mg : Str → Option Value) (C D : Addr) (nm : Str) (b : Bool) : Prop where
  bd : mg nm = some (.ref D)
  hd : XHd K D
  pr : XPair K C D b
theorem Xo.kit {K : PySem.W.Frag} {mg : Str → Option Value} {C D : Addr} {nm : Str} {b : Bool} (x : Xo K mg C D nm b) : PySem.W.kitOne K (.ref C) (.ref D) = some b := kit_own x.hd x.pr
end L2
set_option Elab.async false
set_option linter.all false
set_option maxRecDepth 100000
set_option maxHeartbeats 4000000
namespace L2
open PySem PySem.Spec PyProof.Rows

/-! ### several objects of an iterator turn -/
section
variable {X : Cx} {pins : List (Addr × Obj)} {σ : St} {H : Hp} {s : Shared} {h' : Heap}
theorem Inv.turnedL {t' : Nat} {fp : List Addr} (I : Inv X pins σ H s) (hf : ∀ b ∈ fp, FpOk X pins H b) (k : ∀ b o, b ∉ fp → s.heap.get? b = some o → h'.get? b = some o) : Inv X pins σ H { s with heap := h', toks := t' } := by
  have nit : ∀ b u, H b = some u → b ∉ fp := fun b u e z => by rw [(hf b z).1] at e; cases e
  refine I.step (g' := s.gens) (d' := s.drawn) (ch := fp) (fun b hb => ?_) (fun b o _ _ hc e _ => k b o hc e) (fun b o _ _ hc e _ => ⟨o.slots, k b o hc e⟩) (fun _ _ _ _ n => n)
    (fun b o hc e => ⟨o, k b o hc e⟩) (fun _ _ e => e) (fun _ _ _ e => e) (fun b ps e => ⟨#[], by rw [e]; simp⟩) (fun m hm => ?_) (fun b u e => ?_) I.bare
  · obtain ⟨f0, f1, f2, f3, f4, f5⟩ := hf b hb
    exact ⟨f3, f1, f4, f5⟩
  · obtain ⟨o, es, ep, ho, r⟩ := hm
    exact ⟨o, es, ep, k _ o (fun z => (hf _ z).2.1 rfl) ho, r⟩
  · refine (I.hok b u e).stay (fun c v hc q => k c v ?_ q) (fun _ q => q) fun _ _ q => q
    rcases hc with z | z
    · rw [z]; exact nit b u e
    · exact nit c _ z
theorem FpOk.upd {b p : Addr} {o : HO} (h : FpOk X pins H b) (n : b ≠ p) : FpOk X pins (upd H p o) b := by
  obtain ⟨f0, r⟩ := h
  exact ⟨by rw [upd_ne n]; exact f0, r⟩
theorem get_push {h : Heap} {o u : Obj} {b : Addr} (ho : o.isFreed = false) (e : (h.push o).get? b = some u) : (b = h.objs.size ∧ u = o) ∨ h.get? b = some u := by
  by_cases hb : b = h.objs.size
  · subst hb
    rw [Heap.get?_push_size _ ho] at e
    exact .inl ⟨rfl, (Option.some.inj e).symm⟩
  · refine .inr ?_
    have lt := Heap.lt_size e
    have lt2 : b < h.objs.size := by
      have : (h.push o).objs.size = h.objs.size + 1 := by simp [Heap.push]
      rw [this] at lt
      exact Nat.lt_of_le_of_ne (Nat.le_of_lt_succ lt) hb
    have : (h.push o).get? b = h.get? b := by
      simp only [Heap.get?, Heap.push]
      rw [Array.getElem?_push_lt lt2, Array.getElem?_eq_getElem lt2]
    rw [← this]
    exact e
end

/-! ### enumerate -/
def Ite (K : PySem.W.Frag) (l : Addr) : It :=
  ⟨fun i H => ∃ xs x, SqL K H l xs ∧ xs[i]? = some x, fun i H x H' => ∃ (p : Addr) (y : V), x = .ref p ∧ H p = none ∧ (∀ xs, SqL K H l xs → xs[i]? = some y) ∧ H' = upd H p (.tup [.int i, y]), fun i H => ∃ xs, SqL K H l xs ∧ xs.length ≤ i⟩
theorem turn_enum {P : Program} {w : World} {K : PySem.W.Frag} {elts : List Expr} {x1 : Nat} {pos : Pos} (l e it : Addr) (hne : e ≠ it) : Turn P w K (.Tuple elts x1 pos) (Ite K l) [e, it] e (fun i h => (∃ old, IsEnum h e it i old) ∧ h.IsListIter it l i) where
  mem := by simp
  obj := fun i h st b hb => by
    obtain ⟨⟨old, he⟩, o, ho, c, d⟩ := st
    have hb' : b = e ∨ b = it := by simpa using hb
    rcases hb' with rfl | rfl
    · exact ⟨_, he, fun v z => by cases z⟩
    · exact ⟨o, ho, fun v z => by rw [d] at z; cases z⟩
  keep := fun i h h' st k => by
    obtain ⟨⟨old, he⟩, o, ho, c, d⟩ := st
    exact ⟨⟨old, k e (by simp) _ he⟩, o, k it (by simp) _ ho, c, d⟩
  item := by
    intro X hP hw hK hc i pins s σ H E I hf st hg
    subst hP hw hK
    obtain ⟨xs, x, hq, hx⟩ := hg
    obtain ⟨its, rv, p, hz⟩ := I.list hq
    obtain ⟨u, hu, ru⟩ := rv.get hx
    obtain ⟨⟨old, he⟩, hi⟩ := st
    have elt := Heap.lt_size he
    have ilt : it < s.heap.objs.size := by obtain ⟨o, ho, _⟩ := id hi; exact Heap.lt_size ho
    refine wpAny_pyNext_enum_item he hi p.isList (x := u) (by simpa using hu) hne fun h' hout hit htup hsz hk => ?_
    refine ⟨_, rfl, ?_⟩
    refine wpAny_letOwnedTupleGo_enum hout fun h2 he2 sb => ?_
    have hfr : H s.heap.objs.size = none := I.hok.fresh (Nat.le_refl _)
    have I0 : Inv X pins σ (upd H s.heap.objs.size (.tup [.int i, x])) { s with heap := s.heap.push { cls := .type "tuple", data := .seq #[.int i s.toks, u] } } :=
      I.laid (t' := s.toks) (fun b u e => Heap.get?_push_of_some _ e) (Nat.le_refl _) ⟨by show 2 ≤ sizeLine; decide, [.int i s.toks, u], .cons ⟨_, rfl⟩ (.cons ru .nil), ⟨_, Heap.get?_push_size _ rfl, rfl, _, rfl⟩⟩
    have ne1 : e ≠ s.heap.objs.size := Nat.ne_of_lt elt
    have ne2 : it ≠ s.heap.objs.size := Nat.ne_of_lt ilt
    have hf0 : ∀ b ∈ [e, it], FpOk X pins (upd H s.heap.objs.size (.tup [.int i, x])) b := fun b hb => by
      have hb' : b = e ∨ b = it := by simpa using hb
      rcases hb' with rfl | rfl
      · exact (hf _ (by simp)).upd ne1
      · exact (hf _ (by simp)).upd ne2
    have I1 := I0.turnedL (h' := h2) (t' := s.toks + 1) hf0 (fun b o hb eb => by
      have b1 : b ≠ e := fun z => hb (by simp [z])
      have b2 : b ≠ it := fun z => hb (by simp [z])
      rw [sb.2 b b1]
      rcases get_push rfl eb with ⟨rfl, rfl⟩ | eb
      · exact htup
      · exact hk b o b1 b2 eb)
    refine ⟨.ref s.heap.objs.size, _, I1, rfl, ⟨s.heap.objs.size, x, rfl, hfr, fun ys hy => by rw [I.list_inj hy hq]; exact hx, rfl⟩, ⟨⟨u, he2⟩, ?_⟩, fun b hb => (hf0 b hb).1⟩
    obtain ⟨o, ho, c, d⟩ := hit
    exact ⟨o, (sb.2 it (Ne.symm hne)).trans ho, c, d⟩
  done := by
    intro X hP hw hK hc i pins s σ H E I hf st hg
    subst hP hw hK
    obtain ⟨xs, hq, hx⟩ := hg
    obtain ⟨its, rv, p, hz⟩ := I.list hq
    obtain ⟨⟨old, he⟩, hi⟩ := st
    have hl := rv.length
    exact wpAny_pyNext_enum_end (I.ok.hd hc) he hi p.isList (by simp; omega) fun h' eb => ⟨rfl, I.turnedL (t' := s.toks) hf (fun b o hb e => eb b o (fun z => hb (by simp [z])) e)⟩
  self := fun _ _ _ _ _ st h => by
    obtain ⟨⟨old, he⟩, _⟩ := st
    exact wpAny_pyIter_enum he h
section
variable {X : Cx}
def iEnum (K : PySem.W.Frag) (ta : TA) : TI := fun σ H R => ta σ H fun vs H1 => ∃ l xs, vs = [.ref l] ∧ SqL K H1 l xs ∧ R (Ite K l) H1
theorem bt_enumerate : bootBuiltins "enumerate" = some (.type "enumerate") := by kernel_rfl
theorem pi_enumK {K : PySem.W.Frag} {a : Expr} {ta : TA} {p pos : Pos} {elts : List Expr} {x1 : Nat} {tpos : Pos} (hK : X.K = K) (hg : Gl X "enumerate") (hm : X.mg "enumerate" = none) (ha : PA X [a] ta) (hs : starEach [a] X.env = [(false, eval a X.env)] := by rfl) : PI X (.Tuple elts x1 tpos) (.Call (.Name "enumerate" p) [a] [] pos) (iEnum K ta) := by
  subst hK
  intro pins s σ H R I h
  refine Call_ (ld_blt I hg hm bt_enumerate (PyProof.Rows.callWith_type1 (thn (ha pos pins s σ H _ I h) fun us s1 ⟨vs, H1, I1, r1, q1⟩ => ?_) hs rfl))
  obtain ⟨l, xs, e, hq, q⟩ := q1
  subst e
  cases r1 with
  | cons r rr =>
    cases rr
    cases r
    obtain ⟨its, rv, pl, hz⟩ := I1.list hq
    refine call_enumerate_list pl.isList fun h' hE hI hsz hk => ?_
    refine wpAny_pyIter_enum hE ?_
    have I2 : Inv X pins σ H1 { s1 with heap := h' } := I1.kept (t' := s1.toks) hk
    refine ⟨s1.heap.objs.size + 1, [s1.heap.objs.size + 1, s1.heap.objs.size], _, _, H1, rfl, I2, turn_enum l _ _ (by simp), ⟨⟨_, hE⟩, hI⟩, fun b hb => ?_, q⟩
    have hb' : b = s1.heap.objs.size + 1 ∨ b = s1.heap.objs.size := by simpa using hb
    rcases hb' with rfl | rfl
    · exact I1.fpOk (Nat.le_succ _) (I1.hok.fresh (Nat.le_succ _))
    · exact I1.fpOk (Nat.le_refl _) (I1.hok.fresh (Nat.le_refl _))
end

/-! ### zip of two lists -/
section
variable {X : Cx}
end
end L2
set_option Elab.async false
set_option linter.all false
set_option maxRecDepth 100000
set_option maxHeartbeats 4000000
namespace L2
open PySem PySem.Spec PyProof.Rows
section
variable {K : PySem.W.Frag} {a l1 l2 D : Addr} {xs ys : List V} {g : TG} {tc : TT} {te : TE} {Q : VK} {σ0 : St} {H1 : Hp}
end
section
variable {K : PySem.W.Frag} {a l1 l2 : Addr} {xs ys : List V} {g : TG} {tb : TS} {D : Ends} {σ : St} {H : Hp}
theorem for_enum (Pv : Nat → St → Hp → Prop) (h0 : Pv 0 σ H) (hl : ∀ i σ H, i ≤ xs.length → Pv i σ H → SqL K H a xs)
    (hs : ∀ i x σ H p, xs[i]? = some x → Pv i σ H → H p = none → g (.ref p) σ (upd H p (.tup [.int i, x])) fun σ2 H2 => tb { D with nx := Pv (i + 1), ct := Pv (i + 1), bk := D.nx } σ2 H2) (hd : ∀ σ H, Pv xs.length σ H → D.nx σ H) :
    ∃ W : Nat → Nat → St → Hp → Prop, (∃ m, W 0 m σ H) ∧ ∀ i m σ H, W i m σ H →
      ((Ite K a).stop i H ∧ D.nx σ H) ∨ ((Ite K a).go i H ∧ ∃ N : St → Hp → Prop, (∀ σ' H', N σ' H' → ∃ m', m' < m ∧ W (i + 1) m' σ' H') ∧ ∀ x H', (Ite K a).yld i H x H' → g x σ H' fun σ2 H2 => tb { D with nx := N, ct := N, bk := D.nx } σ2 H2) := by
  refine ⟨fun i m σ H => m = xs.length - i ∧ i ≤ xs.length ∧ Pv i σ H, ⟨xs.length, by simp, Nat.zero_le _, h0⟩, ?_⟩
  rintro i m σ H ⟨rfl, hi, p⟩
  have q := hl i σ H hi p
  by_cases hlt : i < xs.length
  · refine .inr ⟨⟨xs, xs[i], q, by simp [hlt]⟩, Pv (i + 1), fun σ' H' p' => ⟨xs.length - (i + 1), by omega, rfl, hlt, p'⟩, fun x H' y => ?_⟩
    obtain ⟨t, z, rfl, ht, hz, rfl⟩ := y
    exact hs i z σ _ t (hz xs q) p ht
  · have e : i = xs.length := by omega
    subst e
    exact .inl ⟨⟨xs, q, Nat.le_refl _⟩, hd σ H p⟩
end
/-! ### list.insert, list.count, sum -/
section
variable {X : Cx}
theorem pe_bmK {K : PySem.W.Frag} {T name id : String} {r : V → List V → Hp → VK → Prop} {o e : Expr} {es : List Expr} {to : TE} {t : TA} {apos cpos : Pos} (h : X.K = K) (pa : PlainAttrs T) (slot : Slot T name id) (hty : typeOf (.builtin id) = pure (.type "method_descriptor")) (hm : MtR X id r) (ho : PE X o to) (ha : PA X (e :: es) t)
    (hbase : attributeBase o name X.env (eval o X.env) = eval o X.env := by rfl)
    (hfew : ((backTo cpos (starEach (e :: es) X.env)).all (fun x => !x.1) && (backToKw cpos (keywordEach [] X.env)).all (fun x => x.1.isSome)
      && decide ((e :: es).length + ([] : List Keyword).length + (if ([] : List Keyword).isEmpty then 0 else 1) < 30)) = true := by rfl)
    (hline : (apos.endLine == cpos.line) = true := by rfl) (hs : starEach (e :: es) X.env = (false, eval e X.env) :: starEach es X.env := by rfl) (hplain : (backTo cpos (starEach es X.env)).any (·.1) = false := by rfl) :
    PE X (.Call (.Attribute o name apos) (e :: es) [] cpos) (tBM K T r to t) := by
  subst h
  exact pe_bm pa slot hty hm ho ha hbase hfew hline hs hplain
theorem pg_tupK {K : PySem.W.Frag} {es : List Expr} {k : Nat} {t : TGs} {n : Nat} {pos : Pos} (hK : X.K = K) (hc : X.calm = true) (h : PGs X es t)
    (hn : (assignEach es X.env).length = n := by rfl) (hst : (assignEach es X.env).findIdx? (·.1) = none := by rfl) : PG X (.Tuple es k pos) (gTup K n t) := by subst hK; exact pg_tup hc h hn hst
end
end L2
set_option Elab.async false
set_option linter.all false
set_option maxRecDepth 100000
set_option maxHeartbeats 4000000
namespace L2
open PySem
/-! ### comprehensions whose block writes nothing that stood -/
section
variable {K : PySem.W.Frag} {a D : Addr} {xs : List V} {tc : TT} {te : TE} {Q : VK} {rest : St} {H1 : Hp}
theorem fm_succ {α : Type} (f : Nat → Option α) (n : Nat) : (List.range (n + 1)).filterMap f = (List.range n).filterMap f ++ (f n).toList := by
  rw [List.range_succ, List.filterMap_append]
  cases h : f n <;> simp [h]
theorem fm_len {α : Type} (f : Nat → Option α) (n : Nat) : ((List.range n).filterMap f).length ≤ n := by
  have := List.length_filterMap_le f (List.range n)
  simpa using this
theorem Same.newly {H H1 : Hp} {D : Addr} {o : HO} (h : Same H H1) (n : H D = none) : Same H (upd H1 D o) := fun b u e => by rw [upd_ne (ne_of_none e n)]; exact h b u e
/-- over a list: what is told of each item is known ahead -/
theorem comp_val (f : Nat → Option V) (hD : H1 D = none) (hq : SqL K H1 a xs) (hx : xs.length ≤ 100000)
    (hs : ∀ i x H (G : Hp → Prop) (F : VK), xs[i]? = some x → Same H1 H → (∀ H', Same H H' → f i = none → G H') → (∀ y H', Same H H' → f i = some y → F y H') → tc (some x :: rest) H fun b H3 => if b = true then te (some x :: rest) H3 F else G H3)
    (hd : ∀ H, Same H1 H → H D = some (.lst ((List.range xs.length).filterMap f)) → Q (.ref D) H) : CompW (Itl K a) (gName 0) tc te Q D (none :: rest) H1 := by
  refine comp_list (K := K) (xs := xs) (fun i σ H => (∃ v, σ = v :: rest) ∧ Same H1 H ∧ H D = some (.lst ((List.range i).filterMap f))) ⟨⟨none, rfl⟩, same_new hD, upd_same⟩ (fun i σ H _ ⟨_, sm, _⟩ => sm.sqL _ _ hq) ?_ (fun σ H ⟨_, sm, e⟩ => hd H sm e)
  rintro i x σ H hi ⟨⟨v, rfl⟩, sm, e⟩
  have hil : i < xs.length := (List.getElem?_eq_some_iff.mp hi).1
  refine hs i x H _ _ hi sm (fun H3 s3 ef => ⟨⟨_, rfl⟩, sm.trans s3, by rw [s3 _ _ e, fm_succ, ef]; simp⟩) (fun y H4 s4 ef => ?_)
  refine ⟨_, s4 _ _ e, ?_, ⟨_, rfl⟩, (sm.trans s4).newly hD, ?_⟩
  · have := fm_len f i
    rw [sizeLine_eq]; omega
  · rw [upd_same, fm_succ, ef]; rfl
theorem comp_valT (f : Nat → Option V) (hD : H1 D = none) (hq : H1 a = some (.tup xs)) (hx : xs.length ≤ 100000)
    (hs : ∀ i x H (G : Hp → Prop) (F : VK), xs[i]? = some x → Same H1 H → (∀ H', Same H H' → f i = none → G H') → (∀ y H', Same H H' → f i = some y → F y H') → tc (some x :: rest) H fun b H3 => if b = true then te (some x :: rest) H3 F else G H3)
    (hd : ∀ H, Same H1 H → H D = some (.lst ((List.range xs.length).filterMap f)) → Q (.ref D) H) : CompW (Itt K a) (gName 0) tc te Q D (none :: rest) H1 := by
  refine comp_tup (K := K) (xs := xs) (fun i σ H => (∃ v, σ = v :: rest) ∧ Same H1 H ∧ H D = some (.lst ((List.range i).filterMap f))) ⟨⟨none, rfl⟩, same_new hD, upd_same⟩ (fun i σ H _ ⟨_, sm, _⟩ => SqT.of (sm.tups _ _ hq)) ?_ (fun σ H ⟨_, sm, e⟩ => hd H sm e)
  rintro i x σ H hi ⟨⟨v, rfl⟩, sm, e⟩
  have hil : i < xs.length := (List.getElem?_eq_some_iff.mp hi).1
  refine hs i x H _ _ hi sm (fun H3 s3 ef => ⟨⟨_, rfl⟩, sm.trans s3, by rw [s3 _ _ e, fm_succ, ef]; simp⟩) (fun y H4 s4 ef => ?_)
  refine ⟨_, s4 _ _ e, ?_, ⟨_, rfl⟩, (sm.trans s4).newly hD, ?_⟩
  · have := fm_len f i
    rw [sizeLine_eq]; omega
  · rw [upd_same, fm_succ, ef]; rfl
theorem comp_valR {n : Nat} (f : Nat → Option V) (hD : H1 D = none) (hx : n ≤ 100000)
    (hs : ∀ i H (G : Hp → Prop) (F : VK), i < n → Same H1 H → (∀ H', Same H H' → f i = none → G H') → (∀ y H', Same H H' → f i = some y → F y H') → tc (some (.int (0 + i)) :: rest) H fun b H3 => if b = true then te (some (.int (0 + i)) :: rest) H3 F else G H3)
    (hd : ∀ H, Same H1 H → H D = some (.lst ((List.range n).filterMap f)) → Q (.ref D) H) : CompW (Itr 0 n) (gName 0) tc te Q D (none :: rest) H1 := by
  refine comp_range (lo := 0) (n := n) (fun i σ H => (∃ v, σ = v :: rest) ∧ Same H1 H ∧ H D = some (.lst ((List.range i).filterMap f))) ⟨⟨none, rfl⟩, same_new hD, upd_same⟩ ?_ (fun σ H ⟨_, sm, e⟩ => hd H sm e)
  rintro i σ H hi ⟨⟨v, rfl⟩, sm, e⟩
  refine hs i H _ _ hi sm (fun H3 s3 ef => ⟨⟨_, rfl⟩, sm.trans s3, by rw [s3 _ _ e, fm_succ, ef]; simp⟩) (fun y H4 s4 ef => ?_)
  refine ⟨_, s4 _ _ e, ?_, ⟨_, rfl⟩, (sm.trans s4).newly hD, ?_⟩
  · have := fm_len f i
    rw [sizeLine_eq]; omega
  · rw [upd_same, fm_succ, ef]; rfl
theorem fm_congr {α β : Type} {f g : α → Option β} : ∀ (l : List α) (_ : True) (h : ∀ x ∈ l, f x = g x), l.filterMap f = l.filterMap g
  | [], _, _ => rfl
  | x :: l, _, h => by
    rw [List.filterMap_cons, List.filterMap_cons, h x (by simp), fm_congr l trivial fun y hy => h y (by simp [hy])]
end
end L2
namespace L2
open PySem
section
variable {X : Cx} {K : PySem.W.Frag}
theorem op_catTK (h : X.K = K) : OpR X (binaryOp .Add) (rCatT K) := by subst h; exact op_catT
end
end L2
namespace L2
open PySem
/-- the rest of a block hidden while its first statement is read: keeps the terms small -/
theorem seq_one {a b : TS} {D : Ends} {σ : St} {H : Hp} (h : ∀ R : St → Hp → Prop, (∀ σ' H', b D σ' H' → R σ' H') → a { D with nx := R } σ H) : tSeq a b D σ H := h _ (fun _ _ x => x)
theorem seq_cps {a b : TS} {D : Ends} {σ : St} {H : Hp} (P : St → Hp → Prop) (h1 : ∀ D' : Ends, (∀ σ' H', P σ' H' → D'.nx σ' H') → D'.rt = D.rt → a D' σ H) (h2 : ∀ σ' H', P σ' H' → b D σ' H') : tSeq a b D σ H := h1 _ h2 rfl
end L2
namespace L2
open PySem PySem.Spec PyProof.Rows
section
variable {X : Cx} {K : PySem.W.Frag} {a : Expr} {ta : TE} {pos : Pos}
end
end L2
set_option Elab.async false
set_option linter.all false
set_option maxRecDepth 100000
set_option maxHeartbeats 4000000
namespace L2
open PySem PySem.Spec PyProof.Rows
section
variable {X : Cx} {K : PySem.W.Frag}
end
section
variable {K : PySem.W.Frag} {a D : Addr} {xs : List V} {te : TE} {Q : VK} {rest : St} {H1 : Hp}
theorem dats_snoc {H : Hp} {vs : List V} {ds : List PyData} {v : V} {d : PyData} (h : Dats H vs ds) (hd : Dat H v d) : Dats H (vs ++ [v]) (ds ++ [d]) := Dats.append h (by simp only [Dats, and_true]; exact hd)
end
end L2
set_option Elab.async false
set_option linter.all false
set_option maxRecDepth 100000
set_option maxHeartbeats 4000000
namespace L2
open PySem PySem.Spec PyProof.Rows
section
variable {prog : Program} {w : World} {K : Type} [DecidableEq K] {knd : HeapKind prog w K}
end
section
variable {X : Cx} {o e f : Expr} {td ty tx : TE} {apos cpos : Pos}
end
end L2
namespace L2
open PySem PySem.Spec PyProof.Rows
section
variable {X : Cx} {K : PySem.W.Frag}
end
end L2
namespace L2
open PySem
end L2
set_option Elab.async false
set_option linter.all false
set_option maxRecDepth 100000
set_option maxHeartbeats 4000000
namespace L2
open PySem PySem.Spec PyProof.Rows
section
variable {X : Cx} {K : PySem.W.Frag}
end
/-! ### texts put together -/
def cat : List Str → Str
  | [] => Str.empty
  | x :: xs => x ++ cat xs
end L2
set_option Elab.async false
set_option linter.all false
set_option maxRecDepth 100000
set_option maxHeartbeats 4000000
namespace L2
open PySem PySem.Spec PyProof.Rows
section
variable {X : Cx} {body suite : List Stmt} {b0 : Stmt} {cn : Str} {Dc : Addr} {tb : (St → XK) → TS} {th : TS} {cp hpos pos : Pos}
end
end L2
namespace L2
open PySem PySem.Spec PyProof.Rows
section
variable {X : Cx}
end
end L2
set_option Elab.async false
set_option linter.all false
set_option maxRecDepth 100000
set_option maxHeartbeats 4000000
namespace L2
open PySem PySem.Spec PyProof.Rows
section
variable {X : Cx} {pins : List (Addr × Obj)} {σ : St} {H : Hp} {s : Shared} {d : Addr} {u u' : HO}
end
/-! ### over a dict's keys: the dict is held as it stands till the walk is over -/
section
variable {X : Cx} {tg : Expr}
end
section
variable {d D : Addr} {o : Obj} {kvs : List (Key × V)} {tc : TT} {te : TE} {Q : VK} {rest : St} {H1 : Hp}
end
/-! ### let go again -/
end L2
set_option Elab.async false
set_option linter.all false
set_option maxRecDepth 100000
set_option maxHeartbeats 4000000
namespace L2
open PySem PySem.Spec PyProof.Rows
/-! ### range downwards -/
section
variable {X : Cx} {tg : Expr}
/-! ### the least of a list -/
end
end L2
set_option Elab.async false
set_option linter.all false
set_option maxRecDepth 100000
set_option maxHeartbeats 4000000
namespace L2
open PySem PySem.Spec PyProof.Rows
/-! ### reversed of a list -/
section
variable {X : Cx} {tg : Expr}
/-! ### list(range(a, b)) -/
end
end L2
set_option Elab.async false
set_option linter.all false
set_option maxRecDepth 100000
set_option maxHeartbeats 4000000
namespace L2
open PySem PySem.Spec PyProof.Rows
/-! ### in, for lists of data -/
def rInD (K : PySem.W.Frag) (neg : Bool) : R2 := fun x y H Q => ∃ (p : Addr) (vs : List V) (d : PyData) (ds : List PyData), y = .ref p ∧ SqL K H p vs ∧ Dats H vs ds ∧ Dat H x d ∧ SeqAt.shaped d = true ∧ (∀ e ∈ ds, SeqAt.shaped e = true) ∧ Q (.bl (if neg then !(ds.any fun e => PyData.eqv e d) else ds.any fun e => PyData.eqv e d)) H
section
variable {X : Cx}
theorem vals_at {H : Hp} {pins : List (Addr × Obj)} {σ : St} {s : Shared} (I : Inv X pins σ H s) : ∀ {vs : List V} {us : List Value} {ds : List PyData}, Vals vs us → Dats H vs ds → ∀ u ∈ us, ∃ e ∈ ds, ∃ as, Reads s.heap u e as
  | [], _, _, .nil, _ => fun u hu => by cases hu
  | v :: vs, _, d :: ds, .cons r rs, h => fun u hu => by
    simp only [Dats] at h
    rcases List.mem_cons.mp hu with rfl | hu
    · obtain ⟨as, ra⟩ := I.reads d h.1 r
      exact ⟨d, by simp, as, ra⟩
    · obtain ⟨e, he, q⟩ := vals_at I rs h.2 u hu
      exact ⟨e, by simp [he], q⟩
  | _ :: _, _, [], .cons _ _, h => by simp only [Dats] at h
theorem vals_to {H : Hp} {pins : List (Addr × Obj)} {σ : St} {s : Shared} (I : Inv X pins σ H s) : ∀ {vs : List V} {us : List Value} {ds : List PyData}, Vals vs us → Dats H vs ds → ∀ e ∈ ds, ∃ u ∈ us, ∃ as, Reads s.heap u e as
  | [], _, [], .nil, _ => fun e he => by cases he
  | [], _, _ :: _, .nil, h => by simp only [Dats] at h
  | v :: vs, _, d :: ds, .cons r rs, h => fun e he => by
    simp only [Dats] at h
    rcases List.mem_cons.mp he with rfl | he
    · obtain ⟨as, ra⟩ := I.reads e h.1 r
      exact ⟨_, by simp, as, ra⟩
    · obtain ⟨u, hu, q⟩ := vals_to I rs h.2 e he
      exact ⟨u, by simp [hu], q⟩
  | _ :: _, _, [], .cons _ _, h => by simp only [Dats] at h
open Classical in
noncomputable def inU (s : Shared) (ds : List PyData) (d : PyData) (u : Value) : Bool := decide (∃ e ∈ ds, (∃ as, Reads s.heap u e as) ∧ PyData.eqv e d = true)
open Classical in
theorem inU_iff {s : Shared} {ds : List PyData} {d : PyData} {u : Value} : inU s ds d u = true ↔ ∃ e ∈ ds, (∃ as, Reads s.heap u e as) ∧ PyData.eqv e d = true := by unfold inU; exact decide_eq_true_iff
theorem inU_at {A : Around} {s : Shared} {ds : List PyData} {d : PyData} {u v : Value} {bs : List Addr} (hd : SeqAt.shaped d = true) (hds : ∀ e ∈ ds, SeqAt.shaped e = true) (hu : A.units + 64 < cLine) (rv : Reads s.heap v d bs) (h : ∃ e ∈ ds, ∃ as, Reads s.heap u e as) : SeqAt.EqAt A s u v (inU s ds d u) := by
  by_cases q : ∃ e ∈ ds, (∃ as, Reads s.heap u e as) ∧ PyData.eqv e d = true
  · have : inU s ds d u = true := inU_iff.mpr q
    rw [this]
    obtain ⟨e, he, ⟨as, ra⟩, ee⟩ := q
    have := SeqAt.eqAt_reads e d A s u v as bs ra rv (SeqAt.canLay_of_shaped (hds e he)) (SeqAt.canLay_of_shaped hd) (SeqAt.room_of_shaped (hds e he) hu)
    rwa [ee] at this
  · have : inU s ds d u = false := by
      cases z : inU s ds d u with
      | false => rfl
      | true => exact absurd (inU_iff.mp z) q
    rw [this]
    obtain ⟨e, he, as, ra⟩ := h
    have ee : PyData.eqv e d = false := by
      cases z : PyData.eqv e d with
      | false => rfl
      | true => exact absurd ⟨e, he, ⟨as, ra⟩, z⟩ q
    have := SeqAt.eqAt_reads e d A s u v as bs ra rv (SeqAt.canLay_of_shaped (hds e he)) (SeqAt.canLay_of_shaped hd) (SeqAt.room_of_shaped (hds e he) hu)
    rwa [ee] at this
theorem inU_any {H : Hp} {pins : List (Addr × Obj)} {σ : St} {s : Shared} (I : Inv X pins σ H s) {vs : List V} {us : List Value} {ds : List PyData} {d : PyData} (r : Vals vs us) (h : Dats H vs ds) : us.toArray.any (inU s ds d) = ds.any fun e => PyData.eqv e d := by
  rw [show us.toArray.any (inU s ds d) = us.any (inU s ds d) by simp, Bool.eq_iff_iff, List.any_eq_true, List.any_eq_true]
  constructor
  · rintro ⟨u, hu, e⟩
    obtain ⟨e, he, _, ee⟩ := inU_iff.mp e
    exact ⟨e, he, ee⟩
  · rintro ⟨e, he, ee⟩
    obtain ⟨u, hu, q⟩ := vals_to I r h e he
    exact ⟨u, hu, inU_iff.mpr ⟨e, he, q, ee⟩⟩
theorem op_notInDK {K : PySem.W.Frag} (hK : X.K = K) (hu : X.A.in1.units + 64 < cLine) : OpR X (compareOp .NotIn) (rInD K true) := by
  subst hK
  intro pins s σ H x y v u Q I rx ry h
  obtain ⟨p, vs, d, ds, rfl, hq, hds, hd, s1, s2, q⟩ := h
  cases ry
  obtain ⟨its, r, pl, hz⟩ := I.list hq
  obtain ⟨bs, rv⟩ := I.reads d hd rx
  refine SeqAt.notIn_listAt (inU s ds d) pl.isList (fun w hw => inU_at s1 s2 hu rv (vals_at I r hds w (by simpa using hw))) ⟨.bl _, H, I, rfl, ?_⟩
  rw [inU_any I r hds]
  exact q
end
end L2
set_option Elab.async false
set_option linter.all false
set_option maxRecDepth 100000
set_option maxHeartbeats 4000000
namespace L2
open PySem PySem.Spec PyProof.Rows
/-! ### a def that may raise, where it doesn't -/
/-! ### data that stay -/
section
variable {H H' : Hp}
mutual
theorem Dat.same (k : Same H H') : ∀ (d : PyData) {v : V}, Dat H v d → Dat H' v d
  | .none, _, h => by simp only [Dat] at h ⊢; exact h
  | .bool _, _, h => by simp only [Dat] at h ⊢; exact h
  | .int _, _, h => by simp only [Dat] at h ⊢; exact h
  | .str _, _, h => by simp only [Dat] at h ⊢; exact h
  | .list ds, _, h => by simp only [Dat] at h ⊢; obtain ⟨a, vs, e, q, r⟩ := h; exact ⟨a, vs, e, k _ _ q, Dats.same k ds r⟩
  | .tuple ds, _, h => by simp only [Dat] at h ⊢; obtain ⟨a, vs, e, q, r⟩ := h; exact ⟨a, vs, e, k _ _ q, Dats.same k ds r⟩
  | .dict _, _, h => by simp only [Dat] at h
theorem Dats.same (k : Same H H') : ∀ (ds : List PyData) {vs : List V}, Dats H vs ds → Dats H' vs ds
  | [], [], _ => by simp only [Dats]
  | d :: ds, v :: vs, h => by simp only [Dats] at h ⊢; exact ⟨Dat.same k d h.1, Dats.same k ds h.2⟩
  | _ :: _, [], h => by simp only [Dats] at h
  | [], _ :: _, h => by simp only [Dats] at h
end
end
/-! ### isinstance(x, (t1, t2)) of plain data -/
section
variable {X : Cx} {K : PySem.W.Frag}
end
section
variable {K : PySem.W.Frag} {a D : Addr} {xs : List V} {tc : TT} {te : TE} {Q : VK} {rest : St} {H1 : Hp}
theorem imms_fm {f : Nat → Option PyData} (hf : ∀ i d, f i = some d → imm d = true) : ∀ l : List Nat, imms (l.filterMap f) = true
  | [] => rfl
  | i :: l => by
    rw [List.filterMap_cons]
    cases e : f i with
    | none => exact imms_fm hf l
    | some d => simp only [imms, hf i d e, imms_fm hf l, Bool.and_self]
/-- items that are new data of their own, over a list, some left out -/
theorem comp_datL (f : Nat → Option PyData) (hf : ∀ i d, f i = some d → imm d = true) (hD : H1 D = none) (hq : SqL K H1 a xs) (hx : xs.length ≤ 100000)
    (hs : ∀ i x H (G : Hp → Prop) (F : VK), xs[i]? = some x → Same H1 H → (∀ H', Same H H' → f i = none → G H') → (∀ y d H', Same H H' → f i = some d → Dat H' y d → F y H') → tc (some x :: rest) H fun b H3 => if b = true then te (some x :: rest) H3 F else G H3)
    (hd : ∀ H vs, Same H1 H → H D = some (.lst vs) → Dats H vs ((List.range xs.length).filterMap f) → Q (.ref D) H) : CompW (Itl K a) (gName 0) tc te Q D (none :: rest) H1 := by
  refine comp_list (K := K) (xs := xs) (fun i σ H => (∃ v, σ = v :: rest) ∧ Same H1 H ∧ ∃ vs, H D = some (.lst vs) ∧ Dats H vs ((List.range i).filterMap f)) ⟨⟨none, rfl⟩, same_new hD, [], upd_same, by simp [Dats]⟩ (fun i σ H _ ⟨_, sm, _⟩ => sm.sqL _ _ hq) ?_ (fun σ H ⟨_, sm, vs, e, d⟩ => hd H vs sm e d)
  rintro i x σ H hi ⟨⟨v, rfl⟩, sm, vs, e, d⟩
  have hil : i < xs.length := (List.getElem?_eq_some_iff.mp hi).1
  have im := imms_fm hf (List.range i)
  refine hs i x H _ _ hi sm (fun H3 s3 ef => ⟨⟨_, rfl⟩, sm.trans s3, vs, s3 _ _ e, ?_⟩) (fun y dd H4 s4 ef dy => ?_)
  · rw [fm_succ, ef]
    simpa using Dats.keep s3.tups _ im d
  · have hl : vs.length ≤ i := by rw [d.length]; exact fm_len f i
    have kp : Kp D H4 (upd H4 D (.lst (vs ++ [y]))) := Kp.set
    have tp := kp.tups (s4 _ _ e)
    refine ⟨vs, s4 _ _ e, ?_, ⟨_, rfl⟩, (sm.trans s4).newly hD, vs ++ [y], upd_same, ?_⟩
    · rw [sizeLine_eq]; omega
    · rw [fm_succ, ef]
      exact dats_snoc (Dats.keep (fun a xs h => tp _ _ (s4.tups _ _ h)) _ im d) (Dat.keep tp _ (hf i dd ef) dy)
end
/-! ### t + u, any tuples -/
section
variable {X : Cx}
def rCatTU : R2 := fun x y H Q => ∃ a b xs ys, x = .ref a ∧ y = .ref b ∧ H a = some (.tup xs) ∧ H b = some (.tup ys) ∧ xs.length + ys.length ≤ sizeLine ∧ ∀ p H', H' p = some (.tup (xs ++ ys)) → Same H H' → Q (.ref p) H'
theorem op_catTU : OpR X (binaryOp .Add) rCatTU := by
  intro pins s σ H x y v u Q I rx ry h
  obtain ⟨a, b, xs, ys, rfl, rfl, ha, hb, hz, q⟩ := h
  cases rx
  cases ry
  obtain ⟨its, r1, p1, _⟩ := I.tuple (SqT.of ha)
  obtain ⟨its2, r2, p2, _⟩ := I.tuple (SqT.of hb)
  by_cases hv : its = []
  · obtain ⟨⟨cls, dd, data, sl⟩, ho, hc, n, hd⟩ := id p1
    obtain ⟨⟨cls2, dd2, data2, sl2⟩, ho2, hc2, n2, hd2⟩ := id p2
    simp only at hc hd hc2 hd2
    subst hc hd hc2 hd2
    exact concat_meets ⟨_, ho, rfl⟩ ⟨_, ho2, rfl⟩ noFill_tuple_add seq_tuple_add PySem.F.slot_tuple_add PySem.F.entry_tuple_add (PySem.F.args_tuple_add_2 _ _)
      (tuple_addW0 a b its.toArray its2.toArray n n2 dd dd2 sl sl2 (by simp [hv])) ⟨ho, ho2, ⟨.ref b, H, I, rfl, q b H (by rw [hb, r1.nil_iff.mp hv]; rfl) (Same.refl _)⟩⟩
  refine HT.cat_tup p1 p2 hv (fun z => ⟨.ref a, H, I, rfl, q a H (by rw [ha, r2.nil_iff.mp z, List.append_nil]) (Same.refl _)⟩) (fun z => ?_) (by rw [← r1.length, ← r2.length]; exact hz)
  have fr := I.hok.fresh (Nat.le_refl s.heap.objs.size)
  refine ⟨.ref s.heap.objs.size, _, I.laid (t' := s.toks) (o := .tup (xs ++ ys)) (fun b ob q => Heap.get?_push_of_some _ q) (Nat.le_refl _) ?_, rfl, q _ _ upd_same (same_new fr)⟩
  exact ⟨by rw [List.length_append]; exact hz, _, r1.append r2, IsTup.new _ _⟩
end
end L2
set_option Elab.async false
set_option linter.all false
set_option maxRecDepth 100000
set_option maxHeartbeats 4000000
namespace L2
open PySem PySem.Spec PyProof.Rows
theorem Room.units1 {k : Nat} {A : Around} (r : Room k A) : A.in1.units + 64 < cLine := by have := r.un; show A.units + 1 + 64 < _; omega
/-! ### xs[::-1] -/
section
variable {X : Cx} {K : PySem.W.Frag} {e st : Expr} {te tk : TE} {pos p2 : Pos}
end
end L2
set_option Elab.async false
set_option linter.all false
set_option maxRecDepth 100000
set_option maxHeartbeats 4000000
namespace L2
open PySem PySem.Spec PyProof.Rows
/-! ### data are one -/
section
variable {H : Hp}
mutual
theorem Dat.fn : ∀ (d e : PyData) {v : V}, Dat H v d → Dat H v e → d = e
  | .none, e, v, h, g => by cases e <;> simp only [Dat] at h g <;> first | rfl | (subst h; first | (obtain ⟨_, _, z, _⟩ := g; cases z; done) | (cases g; done))
  | .bool _, e, v, h, g => by cases e <;> simp only [Dat] at h g <;> first | (subst h; first | (injection g with g; rw [g]; done) | (obtain ⟨_, _, z, _⟩ := g; cases z; done) | (cases g; done))
  | .int _, e, v, h, g => by cases e <;> simp only [Dat] at h g <;> first | (subst h; first | (injection g with g; rw [g]; done) | (obtain ⟨_, _, z, _⟩ := g; cases z; done) | (cases g; done))
  | .str _, e, v, h, g => by cases e <;> simp only [Dat] at h g <;> first | (subst h; first | (injection g with g; rw [g]; done) | (obtain ⟨_, _, z, _⟩ := g; cases z; done) | (cases g; done))
  | .list ds, .list es, v, h, g => by
    simp only [Dat] at h g
    obtain ⟨a, vs, rfl, ha, da⟩ := h
    obtain ⟨b, ws, e, hb, db⟩ := g
    injection e with e
    subst e
    rw [ha] at hb
    injection hb with hb
    injection hb with hb
    subst hb
    rw [Dats.fn ds es da db]
  | .tuple ds, .tuple es, v, h, g => by
    simp only [Dat] at h g
    obtain ⟨a, vs, rfl, ha, da⟩ := h
    obtain ⟨b, ws, e, hb, db⟩ := g
    injection e with e
    subst e
    rw [ha] at hb
    injection hb with hb
    injection hb with hb
    subst hb
    rw [Dats.fn ds es da db]
  | .list ds, .tuple es, v, h, g => by
    simp only [Dat] at h g
    obtain ⟨a, vs, rfl, ha, da⟩ := h
    obtain ⟨b, ws, e, hb, db⟩ := g
    injection e with e
    subst e
    rw [ha] at hb
    injection hb with hb
    cases hb
  | .tuple ds, .list es, v, h, g => by
    simp only [Dat] at h g
    obtain ⟨a, vs, rfl, ha, da⟩ := h
    obtain ⟨b, ws, e, hb, db⟩ := g
    injection e with e
    subst e
    rw [ha] at hb
    injection hb with hb
    cases hb
  | .list ds, .none, v, h, g => by simp only [Dat] at h g; obtain ⟨a, vs, rfl, _⟩ := h; cases g
  | .list ds, .bool _, v, h, g => by simp only [Dat] at h g; obtain ⟨a, vs, rfl, _⟩ := h; cases g
  | .list ds, .int _, v, h, g => by simp only [Dat] at h g; obtain ⟨a, vs, rfl, _⟩ := h; cases g
  | .list ds, .str _, v, h, g => by simp only [Dat] at h g; obtain ⟨a, vs, rfl, _⟩ := h; cases g
  | .tuple ds, .none, v, h, g => by simp only [Dat] at h g; obtain ⟨a, vs, rfl, _⟩ := h; cases g
  | .tuple ds, .bool _, v, h, g => by simp only [Dat] at h g; obtain ⟨a, vs, rfl, _⟩ := h; cases g
  | .tuple ds, .int _, v, h, g => by simp only [Dat] at h g; obtain ⟨a, vs, rfl, _⟩ := h; cases g
  | .tuple ds, .str _, v, h, g => by simp only [Dat] at h g; obtain ⟨a, vs, rfl, _⟩ := h; cases g
  | .list ds, .dict _, v, h, g => by simp only [Dat] at g
  | .tuple ds, .dict _, v, h, g => by simp only [Dat] at g
  | .dict _, _, v, h, g => by simp only [Dat] at h
theorem Dats.fn : ∀ (ds es : List PyData) {vs : List V}, Dats H vs ds → Dats H vs es → ds = es
  | [], [], _, _, _ => rfl
  | d :: ds, e :: es, v :: vs, h, g => by
    simp only [Dats] at h g
    rw [Dat.fn d e h.1 g.1, Dats.fn ds es h.2 g.2]
  | [], _ :: _, [], _, g => by simp only [Dats] at g
  | [], _ :: _, _ :: _, h, _ => by simp only [Dats] at h
  | _ :: _, [], [], h, _ => by simp only [Dats] at h
  | _ :: _, [], _ :: _, _, g => by simp only [Dats] at g
  | _ :: _, _ :: _, [], h, _ => by simp only [Dats] at h
end
end
/-! ### xs.index(x), of tuples -/
def rIndexD (K : PySem.W.Frag) : V → List V → Hp → VK → Prop := fun x vs H Q => ∃ (l : Addr) (as : List Addr) (w : V) (d : PyData) (ds : List PyData) (j : Nat) (e : PyData), x = .ref l ∧ vs = [w] ∧ SqL K H l (as.map V.ref) ∧ Dats H (as.map V.ref) ds ∧ Dat H w d ∧ SeqAt.shaped d = true ∧ (∀ e ∈ ds, SeqAt.shaped e = true) ∧
  ds[j]? = some e ∧ PyData.eqv e d = true ∧ (∀ m e', m < j → ds[m]? = some e' → PyData.eqv e' d = false) ∧ Q (.int j) H
section
variable {X : Cx}
open Classical in
noncomputable def idU (H : Hp) (d : PyData) (u : Value) : Bool := decide (∃ a e, u = .ref a ∧ Dat H (.ref a) e ∧ PyData.eqv e d = true)
open Classical in
theorem idU_of {H : Hp} {d e : PyData} {a : Addr} (h : Dat H (.ref a) e) : idU H d (.ref a) = PyData.eqv e d := by
  unfold idU
  rw [Bool.eq_iff_iff, decide_eq_true_iff]
  constructor
  · rintro ⟨b, e', eb, he, q⟩
    injection eb with eb
    subst eb
    rw [Dat.fn e e' h he]
    exact q
  · intro q
    exact ⟨a, e, rfl, h, q⟩
theorem mt_indexDK {K : PySem.W.Frag} (hK : X.K = K) (hu : X.A.in1.units + 64 < cLine) : MtR X "list.index" (rIndexD K) := by
  subst hK
  intro pins s σ H x vs v us Q I rx rv h
  obtain ⟨l, as, w, d, ds, j, e, rfl, rfl, hq, hds, hd, s1, s2, hj, hit, hno, q⟩ := h
  cases rx
  obtain ⟨u, rfl, ru⟩ := rv.one
  obtain ⟨its, r, pl, hz⟩ := I.list hq
  obtain ⟨bs, rd⟩ := I.reads d hd ru
  have ei := vals_refs r
  subst ei
  obtain ⟨o, ho, hc, n, hdd⟩ := pl.isList
  obtain ⟨c0, d0, dt, sl⟩ := o
  simp only at hc hdd
  subst hc hdd
  have dl : as.length = ds.length := by rw [← hds.length, List.length_map]
  have jl : j < as.length := by rw [dl]; exact (List.getElem?_eq_some_iff.mp hj).1
  have at_ : ∀ m (hm : m < as.length), ∃ e', ds[m]? = some e' ∧ Dat H (.ref as[m]) e' := fun m hm => by
    exact hds.get (i := m) (v := .ref as[m]) (by rw [List.getElem?_map, List.getElem?_eq_getElem hm]; rfl)
  have eqs : ∀ y ∈ (as.map Value.ref).toArray, SeqAt.EqAt X.A.in1 s y u (idU H d y) := fun y hy => by
    have hy : y ∈ as.map Value.ref := by simpa using hy
    obtain ⟨a, ha, rfl⟩ := List.mem_map.mp hy
    obtain ⟨m, hm, rfl⟩ := List.getElem_of_mem ha
    obtain ⟨e', ee, de⟩ := at_ m hm
    rw [idU_of de]
    obtain ⟨as', ra⟩ := I.reads e' de (u := .ref as[m]) rfl
    exact SeqAt.eqAt_reads e' d _ s _ u as' bs ra rd (SeqAt.canLay_of_shaped (s2 e' (List.mem_of_getElem? ee))) (SeqAt.canLay_of_shaped s1) (SeqAt.room_of_shaped (s2 e' (List.mem_of_getElem? ee)) hu)
  have l63 := line63
  have hz' : as.length ≤ sizeLine := by simpa using hz
  refine call_meets F.slot_list_index ⟨_, ho, rfl⟩ F.entry_list_index (F.args_list_index_2 _ _) (SeqAt.list_indexAt l (as.map Value.ref).toArray n d0 sl u (idU H d) j (by simpa using jl) (by omega) ?_ (fun m hm hmj => ?_)) ⟨ho, eqs, ⟨.int j, H, I.tok _, ⟨_, rfl⟩, q⟩⟩
  · obtain ⟨e', ee, de⟩ := at_ j jl
    rw [hj] at ee
    cases ee
    show idU H d ((as.map Value.ref).toArray[j]'(by simpa using jl)) = true
    simp only [List.getElem_toArray, List.getElem_map]
    rw [idU_of de]
    exact hit
  · have hm' : m < as.length := by simpa using hm
    obtain ⟨e', ee, de⟩ := at_ m hm'
    simp only [List.getElem_toArray, List.getElem_map]
    rw [idU_of de]
    exact hno m e' hmj ee
end
end L2
set_option Elab.async false
set_option linter.all false
set_option maxRecDepth 100000
set_option maxHeartbeats 4000000



namespace Prf
open PySem L2
def top (i : Nat) : Stmt := PySem.Challenge.pw_fewnotes_k30_which_wants_are_met.main.body.getD i (.Pass ⟨0, 0, 0, 0⟩)
abbrev s_is_whole : Stmt := top 16
abbrev s_names : Stmt := top 18
abbrev s_touches_meet : Stmt := top 19
abbrev s_is_note : Stmt := top 21
abbrev s_is_strict : Stmt := top 22
abbrev s_check_strict : Stmt := top 23
abbrev s_places_of : Stmt := top 24
abbrev s_meets_want : Stmt := top 26
abbrev s_is_want : Stmt := top 27
abbrev s_meets : Stmt := top 28
abbrev s_hands_of : Stmt := top 29
abbrev s_Lspring : Stmt := top 31
abbrev s_Ldraw : Stmt := top 32
abbrev s_Lweb : Stmt := top 33
abbrev s_Lcalls : Stmt := top 34
abbrev s_Lmeets : Stmt := top 35
abbrev s_Lends : Stmt := top 36
abbrev s_Lis_want : Stmt := top 37
abbrev s_Lpick : Stmt := top 38
abbrev s_Lstrange : Stmt := top 39
abbrev s_Lfree : Stmt := top 40
abbrev s_Lnear : Stmt := top 41
abbrev s_Lasked : Stmt := top 42
abbrev s_law : Stmt := top 43
structure Blt (mg : Str → Option Value) : Prop where
  b_ValueError : mg "ValueError" = none
  b_abs : mg "abs" = none
  b_all : mg "all" = none
  b_bool : mg "bool" = none
  b_enumerate : mg "enumerate" = none
  b_int : mg "int" = none
  b_isinstance : mg "isinstance" = none
  b_len : mg "len" = none
  b_list : mg "list" = none
  b_max : mg "max" = none
  b_min : mg "min" = none
  b_range : mg "range" = none
  b_tuple : mg "tuple" = none
theorem sc_is_whole : FnScope ["value"] ["value"] (defScope s_is_whole) := ⟨rfl, rfl, rfl, by decide +kernel, rfl, by decide +kernel, by decide +kernel⟩
theorem sc_names : FnScope ["web", "counts", "told", "touch", "k"] ["web"] (defScope s_names) := ⟨rfl, rfl, rfl, by decide +kernel, rfl, by decide +kernel, by decide +kernel⟩
theorem sc_touches_meet : FnScope ["one", "other"] ["one", "other"] (defScope s_touches_meet) := ⟨rfl, rfl, rfl, by decide +kernel, rfl, by decide +kernel, by decide +kernel⟩
theorem sc_is_note : FnScope ["value"] ["value"] (defScope s_is_note) := ⟨rfl, rfl, rfl, by decide +kernel, rfl, by decide +kernel, by decide +kernel⟩
theorem sc_is_strict : FnScope ["places", "note"] ["places", "note"] (defScope s_is_strict) := ⟨rfl, rfl, rfl, by decide +kernel, rfl, by decide +kernel, by decide +kernel⟩
theorem sc_check_strict : FnScope ["places", "some"] ["places", "some"] (defScope s_check_strict) := ⟨rfl, rfl, rfl, by decide +kernel, rfl, by decide +kernel, by decide +kernel⟩
theorem sc_places_of : FnScope ["web", "places", "place", "name"] ["web"] (defScope s_places_of) := ⟨rfl, rfl, rfl, by decide +kernel, rfl, by decide +kernel, by decide +kernel⟩
theorem sc_meets_want : FnScope ["web", "note", "want", "places"] ["web", "note", "want"] (defScope s_meets_want) := ⟨rfl, rfl, rfl, by decide +kernel, rfl, by decide +kernel, by decide +kernel⟩
theorem sc_is_want : FnScope ["web", "places", "note"] ["web", "places", "note"] (defScope s_is_want) := ⟨rfl, rfl, rfl, by decide +kernel, rfl, by decide +kernel, by decide +kernel⟩
theorem sc_meets : FnScope ["note", "want"] ["note", "want"] (defScope s_meets) := ⟨rfl, rfl, rfl, by decide +kernel, rfl, by decide +kernel, by decide +kernel⟩
theorem sc_hands_of : FnScope ["note"] ["note"] (defScope s_hands_of) := ⟨rfl, rfl, rfl, by decide +kernel, rfl, by decide +kernel, by decide +kernel⟩
theorem sc_Lspring : FnScope ["script", "figures", "stir", "cell"] ["script"] (defScope s_Lspring) := ⟨rfl, rfl, rfl, by decide +kernel, rfl, by decide +kernel, by decide +kernel⟩
theorem sc_Ldraw : FnScope ["spring", "many", "found", "stir"] ["spring", "many"] (defScope s_Ldraw) := ⟨rfl, rfl, rfl, by decide +kernel, rfl, by decide +kernel, by decide +kernel⟩
theorem sc_Lweb : FnScope ["spring", "most", "shape", "size", "hands", "first", "room", "base", "kinds", "web", "at", "hand", "kind"] ["spring", "most"] (defScope s_Lweb) := ⟨rfl, rfl, rfl, by decide +kernel, rfl, by decide +kernel, by decide +kernel⟩
theorem sc_Lcalls : FnScope ["web", "many", "found", "hand", "kind", "cell"] ["web"] (defScope s_Lcalls) := ⟨rfl, rfl, rfl, by decide +kernel, rfl, by decide +kernel, by decide +kernel⟩
theorem sc_Lmeets : FnScope ["one", "other"] ["one", "other"] (defScope s_Lmeets) := ⟨rfl, rfl, rfl, by decide +kernel, rfl, by decide +kernel, by decide +kernel⟩
theorem sc_Lends : FnScope ["calls", "note", "one", "other"] ["calls", "note"] (defScope s_Lends) := ⟨rfl, rfl, rfl, by decide +kernel, rfl, by decide +kernel, by decide +kernel⟩
theorem sc_Lis_want : FnScope ["web", "calls", "note", "ends"] ["web", "calls", "note"] (defScope s_Lis_want) := ⟨rfl, rfl, rfl, by decide +kernel, rfl, by decide +kernel, by decide +kernel⟩
theorem sc_Lpick : FnScope ["spring", "web", "calls", "only", "at", "which", "turn", "j", "some"] ["spring", "web", "calls", "only"] (defScope s_Lpick) := ⟨rfl, rfl, rfl, by decide +kernel, rfl, by decide +kernel, by decide +kernel⟩
theorem sc_Lstrange : FnScope ["spring", "note", "at", "how", "number"] ["spring", "note"] (defScope s_Lstrange) := ⟨rfl, rfl, rfl, by decide +kernel, rfl, by decide +kernel, by decide +kernel⟩
theorem sc_Lfree : FnScope ["spring", "calls", "hands", "numbers"] ["spring", "calls"] (defScope s_Lfree) := ⟨rfl, rfl, rfl, by decide +kernel, rfl, by decide +kernel, by decide +kernel⟩
theorem sc_Lnear : FnScope ["spring", "calls", "want", "ones", "others", "which", "pairs", "at", "one", "other"] ["spring", "calls", "want"] (defScope s_Lnear) := ⟨rfl, rfl, rfl, by decide +kernel, rfl, by decide +kernel, by decide +kernel⟩
theorem sc_Lasked : FnScope ["web", "note", "want", "found", "marks", "e"] ["web", "note", "want"] (defScope s_Lasked) := ⟨rfl, rfl, rfl, by decide +kernel, rfl, by decide +kernel, by decide +kernel⟩
theorem sc_law : FnScope ["script", "spring", "shapes", "web", "calls", "shape", "want", "note", "handed", "told", "due", "good"] ["script"] (defScope s_law) := ⟨rfl, rfl, rfl, by decide +kernel, rfl, by decide +kernel, by decide +kernel⟩
section
variable {P : Program} {w : World} {K : PySem.W.Frag} {mg : Str → Option Value} {base : Heap}
/-! ### the spring and its draws -/
def SpringOk (H : Hp) (r : Addr) : Prop := ∃ f t c : Int, H r = some (.lst [.int f, .int t, .int c]) ∧ 0 ≤ f ∧ 0 ≤ t ∧ t < 2305843009213693951 ∧ 0 ≤ c
theorem SpringOk.keep {H H' : Hp} {r : Addr} (h : SpringOk H r) (k : Same H H') : SpringOk H' r := by
  obtain ⟨f, t, c, e, q⟩ := h
  exact ⟨f, t, c, k _ _ e, q⟩
theorem SpringOk.keep' {H H' : Hp} {r x : Addr} (h : SpringOk H r) (k : Kp x H H') (n : r ≠ x) : SpringOk H' r := by
  obtain ⟨f, t, c, e, q⟩ := h
  exact ⟨f, t, c, k _ _ e n, q⟩
def spDraw (K : PySem.W.Frag) : Sp := fun vs H Q _ => ∃ (r : Addr) (m : Int), vs = [.ref r, .int m] ∧ SpringOk H r ∧ 0 < m ∧ m < 1073741824 ∧ ∀ (n : Int) (H' : Hp), 0 ≤ n → n < m → SpringOk H' r → Kp r H H' → Q (.int n) H'
theorem ok_draw {f : Addr} {fd : FuncData} (F : Fun K "_law_draw" "_law_draw" s_Ldraw f fd) : FnOk P w K mg base CX0 1 f fd ["spring", "many"] (spDraw K) := by
  refine F.ok sc_Ldraw (fun vs H Q E h => ?_) (fun cdv A outer s H vs Q E hr h => ?_)
  · obtain ⟨r, m, rfl, _⟩ := h
    rfl
  · obtain ⟨r, m, rfl, ⟨f, t, c, hs, hf, ht, ht2, hc⟩, m0, m1, k⟩ := h
    refine ⟨_, (pss_cons (ps_if (pt_cmpR op_gt (pe_ix (ix_listK (K := K) rfl) (pv 0) pe_int (fun _ _ => rfl)) pe_int (nomark _)) (pss_cons (ps_set (i := 2) sc_Ldraw.nd rfl (Or.inl rfl) (pe_op op_mod (pe_ix (ix_listK (K := K) rfl) (pv 0) pe_int (fun _ _ => rfl)) (pv 1)))
      (pss_cons (ps_asg (pe_op op_fdiv (pe_ix (ix_listK (K := K) rfl) (pv 0) pe_int (fun _ _ => rfl)) (pv 1)) (pg_sub (pv 0) pe_int set_list))
      (pss_one (ps_ret (pv 2))))) pss_nil)
      (pss_cons (ps_asg (pe_op op_add (pe_ix (ix_listK (K := K) rfl) (pv 0) pe_int (fun _ _ => rfl)) pe_int) (pg_sub (pv 0) pe_int set_list))
      (pss_cons (ps_set (i := 3) sc_Ldraw.nd rfl (Or.inl rfl) (pe_op op_mod (pe_op op_mul (pe_ix (ix_listK (K := K) rfl) (pv 0) pe_int (fun _ _ => rfl)) (pe_ix (ix_listK (K := K) rfl) (pv 0) pe_int (fun _ _ => rfl))) pe_int))
      (pss_cons (ps_asg (pe_op op_mod (pe_op op_add (pe_op op_add (pv 3) (pe_op op_mul (pe_op op_mul pe_int (pe_ix (ix_listK (K := K) rfl) (pv 0) pe_int (fun _ _ => rfl))) (pe_ix (ix_listK (K := K) rfl) (pv 0) pe_int (fun _ _ => rfl)))) pe_int) pe_int) (pg_sub (pv 0) pe_int set_list))
      (pss_one (ps_ret (pe_op op_mod (pe_op op_fdiv (pe_ix (ix_listK (K := K) rfl) (pv 0) pe_int (fun _ _ => rfl)) pe_int) (pv 1)))))))), ?_⟩
    refine ⟨_, rfl, _, _, _, _, rfl, rfl, SqL.of hs, rfl, _, _, rfl, rfl, _, rfl, ?_⟩
    refine ite2 (fun h0 => ?_) (fun h0 => ?_)
    · -- found = spring[0] % many
      refine ⟨_, rfl, _, _, _, _, rfl, rfl, SqL.of hs, rfl, _, rfl, _, _, rfl, rfl, m0, ?_⟩
      -- spring[0] = spring[0] // many
      refine ⟨_, rfl, _, _, _, _, rfl, rfl, SqL.of hs, rfl, _, rfl, _, _, rfl, rfl, ⟨m0, m1⟩, _, rfl, _, _, _, _, rfl, rfl, hs, rfl, ?_⟩
      refine ⟨_, rfl, ?_⟩
      exact k _ _ (Int.emod_nonneg _ (by omega)) (Int.emod_lt_of_pos _ m0) ⟨_, _, _, upd_same, Int.ediv_nonneg hf (by omega), ht, ht2, hc⟩ Kp.set
    · -- spring[2] = spring[2] + 1
      refine ⟨_, rfl, _, _, _, _, rfl, rfl, SqL.of hs, rfl, _, _, rfl, rfl, _, rfl, _, _, _, _, rfl, rfl, hs, rfl, ?_⟩
      -- stir = spring[1] * spring[1] % M
      refine ⟨_, rfl, _, _, _, _, rfl, rfl, SqL.of upd_same, rfl, _, rfl, _, _, _, _, rfl, rfl, SqL.of upd_same, rfl, _, _, rfl, rfl, .inl ⟨by omega, by omega⟩, _, _, rfl, rfl, (by show (0 : Int) < 2305843009213693951; decide), ?_⟩
      -- spring[1] = ..
      refine ⟨_, rfl, _, rfl, _, _, _, _, rfl, rfl, SqL.of upd_same, rfl, _, _, rfl, rfl, .inl ⟨by decide, by decide⟩, _, rfl, _, _, _, _, rfl, rfl, SqL.of upd_same, rfl, _, _, rfl, rfl, .inr ⟨by omega, by omega⟩, _, _, rfl, rfl, _, _, rfl, rfl, _, _, rfl, rfl, (by show (0 : Int) < 2305843009213693951; decide),
        _, rfl, _, _, _, _, rfl, rfl, upd_same, rfl, ?_⟩
      refine ⟨_, rfl, _, _, _, _, rfl, rfl, SqL.of upd_same, rfl, _, _, rfl, rfl, (by show CDiv _ 65537; exact ⟨by decide, by decide⟩), _, rfl, _, _, rfl, rfl, m0, ?_⟩
      refine k _ _ (Int.emod_nonneg _ (by omega)) (Int.emod_lt_of_pos _ m0) ⟨_, _, _, upd_same, hf, Int.emod_nonneg _ (by decide), Int.emod_lt_of_pos _ (by decide), ?_⟩ ?_
      · show 0 ≤ c + 1
        omega
      · rw [upd_upd]
        exact Kp.set
def spSpring (K : PySem.W.Frag) : Sp := fun vs H Q _ => ∃ (a : Addr) (ns : List Int), vs = [.ref a] ∧ SqL K H a (ns.map V.int) ∧ ns.length ≤ 63 ∧ ∀ (r : Addr) (H' : Hp), H r = none → SpringOk H' r → Same H H' → Q (.ref r) H'
theorem bits60 : Builtin.Int.intBits ((10 : Int) ^ ((60 : Int).toNat)) ≤ 200 := PySem.intBits_le_iff.mpr (by decide)
theorem ok_spring {f : Addr} {fd : FuncData} (F : Fun K "_law_spring" "_law_spring" s_Lspring f fd) (Bt : Blt mg) : FnOk P w K mg base CX0 1 f fd ["script"] (spSpring K) := by
  refine F.ok sc_Lspring (fun vs H Q E h => ?_) (fun cdv A outer s H vs Q E hr h => ?_)
  · obtain ⟨a, ns, rfl, _⟩ := h
    rfl
  · obtain ⟨a, ns, rfl, hs, hlen, k⟩ := h
    refine ⟨_, (pss_cons (ps_set (i := 1) sc_Lspring.nd rfl (Or.inl rfl) pe_int)
      (pss_cons (ps_set (i := 2) sc_Lspring.nd rfl (Or.inl rfl) pe_int)
      (pss_cons (ps_for PassesOwn.never rfl (pi_listK (K := K) rfl (pe_slice (sl_listK (K := K) rfl) (pv 0) po_none (po_some pe_int))) (pg_name (i := 3) sc_Lspring.nd rfl (Or.inl rfl))
      (pss_cons (ps_if (pt_cmpR op_ge (pe_callB call_abs (by rfl) Bt.b_abs bt_abs (pa_cons (pv 3) pa_nil)) (pe_op op_pow pe_int pe_int) (nomark _)) (pss_one (ps_set (i := 1) sc_Lspring.nd rfl (Or.inl rfl) (pe_op op_add (pe_op op_mulB (pv 1) (pe_op op_pow pe_int pe_int)) (pe_op op_mod (pe_callB call_abs (by rfl) Bt.b_abs bt_abs (pa_cons (pv 3) pa_nil)) (pe_op op_pow pe_int pe_int))))) pss_nil)
      (pss_one (ps_set (i := 2) sc_Lspring.nd rfl (Or.inl rfl) (pe_op op_mod (pe_op op_add (pe_op op_add (pe_op op_mul (pv 2) pe_int) (pe_op op_mod (pv 3) pe_int)) pe_int) pe_int)))))
      (pss_one (ps_ret (pe_lst (pa_cons (pv 1) (pa_cons (pv 2) (pa_cons pe_int pa_nil))))))))), ?_⟩
    -- for cell in script[:63]
    refine ⟨_, rfl, _, rfl, _, _, rfl, hs, fun p hp => ?_⟩
    have hcut : cutV (ns.map V.int) none (some 63) = ns.map V.int := by
      unfold cutV
      rw [HT.sIx_none, show (some (63 : Int)) = some ((63 : Nat) : Int) from rfl, HT.sIx_nat, List.length_map, List.drop_zero, Nat.min_eq_right hlen, Nat.sub_zero, List.take_of_length_le (by simp)]
    rw [hcut]
    refine ⟨p, rfl, ⟨_, SqL.of upd_same⟩, for_list (K := K) (a := p) (xs := ns.map V.int) (fun i σ H2 => ∃ (f t : Int) (v : Option V), σ = [some (.ref a), some (.int f), some (.int t), v] ∧ H2 = upd H p (.lst (ns.map V.int)) ∧ 0 ≤ f ∧ Builtin.Int.intBits f ≤ 201 * i ∧ 0 ≤ t ∧ t < 2305843009213693951)
      ⟨0, 88651, none, rfl, rfl, by decide, by decide, by decide, by decide⟩ (fun i σ H2 _ ⟨_, _, _, _, e, _⟩ => by rw [e]; exact SqL.of upd_same) ?_ ?_⟩
    · rintro i y σ H2 hi ⟨f, t, v, rfl, rfl, hf, hb, ht, ht2⟩
      have hil : i < ns.length := by have := (List.getElem?_eq_some_iff.mp hi).1; rwa [List.length_map] at this
      obtain ⟨z, rfl⟩ : ∃ z, y = V.int z := by
        rw [List.getElem?_map] at hi
        cases e : ns[i]? with
        | none => rw [e] at hi; cases hi
        | some z => rw [e] at hi; exact ⟨z, (Option.some.inj hi).symm⟩
      refine ⟨_, rfl, _, rfl, _, _, rfl, rfl, (by show CPow 10 18; exact ⟨by decide, by decide, by decide⟩), _, _, rfl, rfl, _, rfl, ?_⟩
      have hcp : CPow 10 60 := ⟨by decide, by decide, by decide⟩
      refine ite2 (fun _ => ?_) (fun _ => ?_)
      · have hmul : IntMulOk f ((10 : Int) ^ ((60 : Int).toNat)) := IntMulOk.of_le hb bits60 (by omega)
        have hpos : (0 : Int) < (10 : Int) ^ ((60 : Int).toNat) := by decide
        have habs : (0 : Int) ≤ (if z < 0 then -z else z) % ((10 : Int) ^ ((60 : Int).toNat)) := Int.emod_nonneg _ (Int.ne_of_gt hpos)
        have hbits : Builtin.Int.intBits ((if z < 0 then -z else z) % ((10 : Int) ^ ((60 : Int).toNat))) ≤ 200 :=
          PySem.intBits_le_of_natAbs (y := (10 : Int) ^ ((60 : Int).toNat)) (by have := Int.emod_lt_of_pos (if z < 0 then -z else z) hpos; omega) bits60
        refine ⟨_, rfl, _, _, rfl, rfl, hcp, _, _, rfl, rfl, hmul, _, rfl, _, rfl, _, _, rfl, rfl, hcp, _, _, rfl, rfl, hpos, _, _, rfl, rfl, ?_⟩
        refine ⟨_, rfl, _, _, rfl, rfl, .inr ⟨by decide, by decide⟩, _, rfl, _, _, rfl, rfl, (by show (0 : Int) < 2305843009213693921; decide), _, _, rfl, rfl, _, _, rfl, rfl, _, _, rfl, rfl, (by show (0 : Int) < 2305843009213693951; decide), ?_⟩
        refine ⟨_, _, _, rfl, rfl, Int.add_nonneg (Int.mul_nonneg hf (Int.le_of_lt hpos)) habs, ?_, Int.emod_nonneg _ (by decide), Int.emod_lt_of_pos _ (by decide)⟩
        have q := PySem.intBits_add_le (PySem.intBits_mul_le hb bits60) hbits
        have : max (201 * i + 200) 200 + 1 = 201 * (i + 1) := by omega
        rw [this] at q
        exact q
      · refine ⟨_, rfl, _, _, rfl, rfl, .inr ⟨by decide, by decide⟩, _, rfl, _, _, rfl, rfl, (by show (0 : Int) < 2305843009213693921; decide), _, _, rfl, rfl, _, _, rfl, rfl, _, _, rfl, rfl, (by show (0 : Int) < 2305843009213693951; decide), ?_⟩
        exact ⟨_, _, _, rfl, rfl, hf, by omega, Int.emod_nonneg _ (by decide), Int.emod_lt_of_pos _ (by decide)⟩
    · rintro σ H2 ⟨f, t, v, rfl, rfl, hf, hb, ht, ht2⟩
      refine ⟨_, rfl, _, rfl, (by show 3 ≤ sizeLine; decide), fun r hr' => ?_⟩
      exact k r _ ((same_new hp).free hr') ⟨f, t, 0, upd_same, hf, ht, ht2, by decide⟩ ((same_new hp).trans (same_new hr'))

/-! ### a web -/
abbrev Tch := Int × Str × Int
def tD (x : Tch) : PyData := .tuple [.int x.1, .str x.2.1, .int x.2.2]
theorem imm_tD (x : Tch) : imm (tD x) = true := rfl
def TchOk (x : Tch) : Prop := (0 ≤ x.1 ∧ x.1 < 8) ∧ (x.2.1 = "load" ∨ x.2.1 = "store" ∨ x.2.1 = "swap") ∧ (0 ≤ x.2.2 ∧ x.2.2 < 20)
theorem dat_tch {H : Hp} {t : Addr} {x : Tch} (h : H t = some (.tup [.int x.1, .str x.2.1, .int x.2.2])) : Dat H (.ref t) (tD x) := by
  simp only [tD, Dat]
  exact ⟨t, _, rfl, h, by simp only [Dats, Dat, and_self]⟩
theorem dats_one {H : Hp} {v : V} {d : PyData} (h : Dat H v d) : Dats H [v] [d] := by
  simp only [Dats, and_true]
  exact h
/-- a list of touches stands at a -/
def WebAt (H : Hp) (a : Addr) (ws : List Tch) : Prop := ∃ vs, H a = some (.lst vs) ∧ Dats H vs (ws.map tD)
theorem WebAt.same {H H' : Hp} {a : Addr} {ws : List Tch} (h : WebAt H a ws) (k : Same H H') : WebAt H' a ws := by
  obtain ⟨vs, e, d⟩ := h
  exact ⟨vs, k _ _ e, Dats.keep k.tups _ (imms_map _ imm_tD ws) d⟩
theorem WebAt.kp {H H' : Hp} {a r : Addr} {ws : List Tch} {ys : List V} (h : WebAt H a ws) (hr : H r = some (.lst ys)) (k : Kp r H H') (n : a ≠ r) : WebAt H' a ws := by
  obtain ⟨vs, e, d⟩ := h
  exact ⟨vs, k _ _ e n, Dats.keep (k.tups hr) _ (imms_map _ imm_tD ws) d⟩
theorem WebAt.spr {H H' : Hp} {a r : Addr} {ws : List Tch} (h : WebAt H a ws) (hr : SpringOk H r) (k : Kp r H H') (n : a ≠ r) : WebAt H' a ws := by
  obtain ⟨f, t, c, e, _⟩ := hr
  exact h.kp e k n
def spWeb (K : PySem.W.Frag) : Sp := fun vs H Q _ => ∃ (r : Addr) (most : Int), vs = [.ref r, .int most] ∧ SpringOk H r ∧ 0 ≤ most ∧ most ≤ 300 ∧
  ∀ (a : Addr) (ws : List Tch) (H' : Hp), H a = none → WebAt H' a ws → (∀ x ∈ ws, TchOk x) → ws.length ≤ 300 → SpringOk H' r → Kp r H H' → Q (.ref a) H'
theorem menu3 (most : Int) (h0 : 0 ≤ most) (h1 : most ≤ 300) (b1 b2 : Bool) : ∃ v : Int, atI [V.int 31, V.int 101, V.int (most + 1)] ((if b1 then 1 else 0) + (if b2 then 1 else 0)) = some (V.int v) ∧ 0 < v ∧ v ≤ 301 := by
  cases b1 <;> cases b2
  · exact ⟨31, rfl, by decide, by decide⟩
  · exact ⟨101, rfl, by decide, by decide⟩
  · exact ⟨101, rfl, by decide, by decide⟩
  · exact ⟨most + 1, rfl, by omega, by omega⟩
theorem menu5 (n : Int) (h0 : 0 ≤ n) (h1 : n < 5) : ∃ v : Int, atI [V.int 1, V.int 2, V.int 3, V.int 5, V.int 20] n = some (V.int v) ∧ 0 < v ∧ v ≤ 20 := by
  have : n = 0 ∨ n = 1 ∨ n = 2 ∨ n = 3 ∨ n = 4 := by omega
  rcases this with rfl | rfl | rfl | rfl | rfl
  · exact ⟨1, rfl, by decide, by decide⟩
  · exact ⟨2, rfl, by decide, by decide⟩
  · exact ⟨3, rfl, by decide, by decide⟩
  · exact ⟨5, rfl, by decide, by decide⟩
  · exact ⟨20, rfl, by decide, by decide⟩
/-- a list of kinds -/
def KindsOk (ks : List Str) : Prop := 0 < ks.length ∧ ks.length ≤ 6 ∧ ∀ k ∈ ks, k = "load" ∨ k = "store" ∨ k = "swap"
theorem atI_int {α : Type} {xs : List α} {n : Int} (h0 : 0 ≤ n) (h1 : n < xs.length) : ∃ v, atI xs n = some v ∧ xs[n.toNat]? = some v := by
  obtain ⟨m, rfl⟩ := Int.eq_ofNat_of_zero_le h0
  have : m < xs.length := by omega
  exact ⟨xs[m], atI_nat (by simp [this]), by simp [this]⟩
/-- the names of ok_web as they stand -/
def wSt (a0 : Addr) (a1 : Int) (a2 : Int) (a3 : Int) (a4 : Int) (a5 : Int) (a6 : Int) (a7 : Int) (a8 : Addr) (x9 : Option V) (x10 : Option V) (x11 : Option V) (x12 : Option V) : St := [some (.ref a0), some (.int a1), some (.int a2), some (.int a3), some (.int a4), some (.int a5), some (.int a6), some (.int a7), some (.ref a8), x9, x10, x11, x12]
theorem ok_web {f : Addr} {fd : FuncData} (F : Fun K "_law_web" "_law_web" s_Lweb f fd) (F_Ldraw : FnAt P w K mg base 1 "_law_draw" ["spring", "many"] (spDraw K)) (Bt : Blt mg) : FnOk P w K mg base CX0 2 f fd ["spring", "most"] (spWeb K) := by
  refine F.ok sc_Lweb (fun vs H Q E h => ?_) (fun cdv A outer s H vs Q E hr h => ?_)
  · obtain ⟨r, m, rfl, _⟩ := h
    rfl
  · obtain ⟨r, most, rfl, S0, mo0, mo1, k⟩ := h
    refine ⟨_, (pss_cons (ps_set (i := 2) sc_Lweb.nd rfl (Or.inl rfl) (pe_fn F_Ldraw (hr.mono (by decide)) (by rfl) (pa_cons (pv 0) (pa_cons pe_int pa_nil))))
      (pss_cons (ps_set (i := 3) sc_Lweb.nd rfl (Or.inl rfl) (pe_fn F_Ldraw (hr.mono (by decide)) (by rfl) (pa_cons (pv 0) (pa_cons (pe_ix (ix_listK (K := K) rfl) (pe_lst (pa_cons pe_int (pa_cons pe_int (pa_cons (pe_op op_add (pv 1) pe_int) pa_nil)))) (pe_op op_add (pe_callTy call_int1 (by rfl) Bt.b_int bt_int (pa_cons (pe_cmpR op_eq (pe_op op_mod (pv 2) pe_int) pe_int (nomark _)) pa_nil)) (pe_callTy call_int1 (by rfl) Bt.b_int bt_int (pa_cons (pe_cmpR op_eq (pv 2) pe_int (nomark _)) pa_nil))) (fun _ _ => rfl)) pa_nil))))
      (pss_cons (ps_set (i := 4) sc_Lweb.nd rfl (Or.inl rfl) (pe_op op_add pe_int (pe_fn F_Ldraw (hr.mono (by decide)) (by rfl) (pa_cons (pv 0) (pa_cons pe_int pa_nil)))))
      (pss_cons (ps_set (i := 5) sc_Lweb.nd rfl (Or.inl rfl) (pe_fn F_Ldraw (hr.mono (by decide)) (by rfl) (pa_cons (pv 0) (pa_cons pe_int pa_nil))))
      (pss_cons (ps_set (i := 6) sc_Lweb.nd rfl (Or.inl rfl) (pe_ix (ix_listK (K := K) rfl) (pe_lst (pa_cons pe_int (pa_cons pe_int (pa_cons pe_int (pa_cons pe_int (pa_cons pe_int pa_nil)))))) (pe_fn F_Ldraw (hr.mono (by decide)) (by rfl) (pa_cons (pv 0) (pa_cons pe_int pa_nil))) (fun _ _ => rfl)))
      (pss_cons (ps_set (i := 7) sc_Lweb.nd rfl (Or.inl rfl) (pe_fn F_Ldraw (hr.mono (by decide)) (by rfl) (pa_cons (pv 0) (pa_cons pe_int pa_nil))))
      (pss_cons (ps_set (i := 8) sc_Lweb.nd rfl (Or.inl rfl) (pe_lst (pa_cons pe_str (pa_cons pe_str (pa_cons pe_str pa_nil)))))
      (pss_cons (ps_if (pt_cmpR op_eq (pe_fn F_Ldraw (hr.mono (by decide)) (by rfl) (pa_cons (pv 0) (pa_cons pe_int pa_nil))) pe_int (nomark _)) (pss_one (ps_set (i := 8) sc_Lweb.nd rfl (Or.inl rfl) (pe_lst (pa_cons pe_str (pa_cons pe_str (pa_cons pe_str (pa_cons pe_str (pa_cons pe_str (pa_cons pe_str pa_nil))))))))) pss_nil)
      (pss_cons (ps_set (i := 9) sc_Lweb.nd rfl (Or.inl rfl) (pe_lst pa_nil))
      (pss_cons (ps_for PassesOwn.never rfl (pi_range1 (by rfl) Bt.b_range (pa_cons (pv 3) pa_nil)) (pg_name (i := 10) sc_Lweb.nd rfl (Or.inl rfl))
      (pss_cons (ps_set (i := 11) sc_Lweb.nd rfl (Or.inl rfl) (pe_op op_mod (pe_op op_add (pv 5) (pe_fn F_Ldraw (hr.mono (by decide)) (by rfl) (pa_cons (pv 0) (pa_cons (pv 4) pa_nil)))) pe_int))
      (pss_cons (ps_set (i := 12) sc_Lweb.nd rfl (Or.inl rfl) (pe_ix (ix_listK (K := K) rfl) (pv 8) (pe_fn F_Ldraw (hr.mono (by decide)) (by rfl) (pa_cons (pv 0) (pa_cons (pe_callB (call_len_seqK (K := K) rfl) (by rfl) Bt.b_len bt_len (pa_cons (pv 8) pa_nil)) pa_nil))) (fun _ _ => rfl)))
      (pss_one (ps_expr (pe_appendK (K := K) rfl (pv 9) (pa_cons (pe_tup (pa_cons (pv 11) (pa_cons (pv 12) (pa_cons (pe_op op_mod (pe_op op_add (pv 7) (pe_fn F_Ldraw (hr.mono (by decide)) (by rfl) (pa_cons (pv 0) (pa_cons (pv 6) pa_nil)))) pe_int) pa_nil)))) pa_nil)))))))
      (pss_one (ps_ret (pv 9))))))))))))), ?_⟩
    -- shape
    refine seq_one (fun R g => ?_)
    refine ⟨_, rfl, r, 32, rfl, S0, by decide, by decide, fun n1 H1 a1 b1 S1 k1 => ?_⟩
    refine g _ _ ?_
    -- size
    refine seq_one (fun R g => ?_)
    refine ⟨_, rfl, _, rfl, _, _, rfl, rfl, (by show 3 ≤ sizeLine; decide), fun p hp => ?_⟩
    obtain ⟨v1, e1, v10, v11⟩ := menu3 most mo0 mo1 (decide (V.int (n1 % 8) = V.int 7)) (decide (V.int n1 = V.int 31))
    have sm1 := same_new (o := HO.lst [V.int 31, V.int 101, V.int (most + 1)]) hp
    have S1' := S1.keep sm1
    refine ⟨_, rfl, _, _, rfl, rfl, (by show (0 : Int) < 8; decide), rfl, Or.inr ⟨_, rfl, _, rfl, rfl, Or.inr ⟨_, rfl, _, _, rfl, rfl, _, _, _, _, rfl, rfl, SqL.of upd_same, e1, ?_⟩⟩⟩
    refine ⟨r, v1, rfl, S1', v10, by omega, fun n2 H2 a2 b2 S2 k2 => ?_⟩
    refine g _ _ ?_
    -- hands, first
    refine seq_one (fun R g => ?_)
    refine ⟨_, rfl, r, 8, rfl, S2, by decide, by decide, fun n3 H3 a3 b3 S3 k3 => ⟨_, _, rfl, rfl, ?_⟩⟩
    refine g _ _ ?_
    refine seq_one (fun R g => ?_)
    refine ⟨_, rfl, r, 8, rfl, S3, by decide, by decide, fun n4 H4 a4 b4 S4 k4 => ?_⟩
    refine g _ _ ?_
    -- room
    refine seq_one (fun R g => ?_)
    refine ⟨(by show 5 ≤ sizeLine; decide), fun p2 hp2 => ?_⟩
    have sm2 := same_new (o := HO.lst [V.int 1, V.int 2, V.int 3, V.int 5, V.int 20]) hp2
    refine ⟨_, rfl, r, 5, rfl, S4.keep sm2, by decide, by decide, fun n5 H5 a5 b5 S5 k5 => ?_⟩
    obtain ⟨v2, e2, v20, v21⟩ := menu5 n5 a5 b5
    have np2 : p2 ≠ r := by
      obtain ⟨f, t, c, e, _⟩ := S4
      exact (ne_of_none e hp2).symm
    refine ⟨_, _, _, _, rfl, rfl, SqL.of (k5 _ _ upd_same np2), e2, ?_⟩
    refine g _ _ ?_
    -- base
    refine seq_one (fun R g => ?_)
    refine ⟨_, rfl, r, 20, rfl, S5, by decide, by decide, fun n6 H6 a6 b6 S6 k6 => ?_⟩
    refine g _ _ ?_
    have kk : Kp r H H6 := ((((((k1.trans (.of_same sm1)).trans k2).trans k3).trans k4).trans (.of_same sm2)).trans k5).trans k6
    -- kinds
    refine seq_one (fun R g => ?_)
    refine ⟨(by show 3 ≤ sizeLine; decide), fun q hq => ?_⟩
    have sm3 := same_new (o := HO.lst [V.str "load", V.str "store", V.str "swap"]) hq
    refine g _ _ ?_
    have nq : q ≠ r := by
      obtain ⟨f, t, c, e, _⟩ := S6
      exact (ne_of_none e hq).symm
    refine ⟨_, rfl, r, 3, rfl, S6.keep sm3, by decide, by decide, fun n7 H7 a7 b7 S7 k7 => ?_⟩
    -- what is behind the choice of the kinds
    have rest : ∀ (kd : Addr) (ks : List Str) (H8 : Hp), KindsOk ks → kd ≠ r → H8 kd = some (.lst (ks.map V.str)) → SpringOk H8 r → Kp r H H8 →
        ∀ t : TS, t = tSeq (tAsg (tLst tNil) (gName 9)) (tSeq (tFor (iRng1 (tCons (tVar 3) tNil)) (gName 10)
          (tSeq (tAsg (tOp (rI (fun _ j => 0 < j) fun i j => V.int (i % j)) (tOp (rI0 fun i j => V.int (i + j)) (tVar 5) (tCall (spDraw K) [] E0 (tCons (tVar 0) (tCons (tVar 4) tNil)))) (tC (V.int 8))) (gName 11))
            (tSeq (tAsg (tOp (rIxL K) (tVar 8) (tCall (spDraw K) [] E0 (tCons (tVar 0) (tCons (tCB (rLen K) (tCons (tVar 8) tNil)) tNil)))) (gName 12))
              (tDrop (tBM K "list" rAppend (tVar 9) (tCons (tTup (tCons (tVar 11) (tCons (tVar 12) (tCons (tOp (rI (fun _ j => 0 < j) fun i j => V.int (i % j)) (tOp (rI0 fun i j => V.int (i + j)) (tVar 7) (tCall (spDraw K) [] E0 (tCons (tVar 0) (tCons (tVar 6) tNil)))) (tC (V.int 20))) tNil)))) tNil))))))
          (tRet (tVar 9))) →
        t { nx := fun _ H' => Q .non H', rt := Q } (wSt r most n1 n2 (1 + n3) n4 v2 n6 kd none none none none) H8 := by
      intro kd ks H8 hks nk hk S8 k8 t et
      subst et
      refine ⟨(by show 0 ≤ sizeLine; decide), fun w hw => ?_⟩
      have sm4 := same_new (o := HO.lst []) hw
      have nw : w ≠ r := by
        obtain ⟨f, t, c, e, _⟩ := S8
        exact (ne_of_none e hw).symm
      have nwk : w ≠ kd := (ne_of_none hk hw).symm
      have fresh : H w = none := by
        cases e : H w with
        | none => rfl
        | some o => rw [k8 w o e nw] at hw; cases hw
      refine ⟨_, rfl, n2, rfl, by omega, by omega, for_range (lo := 0) (n := n2.toNat) (fun i σ H2 => ∃ (ws : List Tch) (x1 x2 x3 : Option V), σ = (wSt r most n1 n2 (1 + n3) n4 v2 n6 kd (some (.ref w)) x1 x2 x3) ∧
        WebAt H2 w ws ∧ (∀ x ∈ ws, TchOk x) ∧ ws.length = i ∧ SpringOk H2 r ∧ Kp r H H2 ∧ H2 kd = some (.lst (ks.map V.str)))
        ⟨[], none, none, none, rfl, ⟨[], upd_same, by simp only [List.map_nil, Dats]⟩, by simp, rfl, S8.keep sm4, k8.trans (.of_same sm4), sm4 _ _ hk⟩ ?_ ?_⟩
      · rintro i σ H2 hi ⟨ws, x1, x2, x3, rfl, W2, ok2, len2, S2', kp2, hk2⟩
        -- hand
        refine ⟨_, rfl, _, rfl, _, rfl, r, _, rfl, S2', by omega, by omega, fun m1 G1 c1 d1 T1 j1 => ⟨_, _, rfl, rfl, _, _, rfl, rfl, (by show (0 : Int) < 8; decide), ?_⟩⟩
        -- kind
        have hk3 := j1 _ _ hk2 nk
        refine ⟨_, rfl, _, rfl, _, rfl, kd, _, rfl, .inl (SqL.of hk3), r, _, rfl, T1, ?_, ?_, fun m2 G2 c2 d2 T2 j2 => ?_⟩
        · have := hks.1; rw [List.length_map]; omega
        · have := hks.2.1; rw [List.length_map]; omega
        rw [List.length_map] at d2
        obtain ⟨kv, ek, ek'⟩ := atI_int (xs := ks.map V.str) c2 (by rw [List.length_map]; exact d2)
        obtain ⟨kind, ekind, rfl⟩ : ∃ kind, ks[m2.toNat]? = some kind ∧ V.str kind = kv := by
          rw [List.getElem?_map] at ek'
          cases e : ks[m2.toNat]? with
          | none => rw [e] at ek'; cases ek'
          | some z => rw [e] at ek'; exact ⟨z, rfl, Option.some.inj ek'⟩
        have hk4 := j2 _ _ hk3 nk
        refine ⟨_, _, _, _, rfl, rfl, SqL.of hk4, ek, ?_⟩
        -- web.append((hand, kind, cell))
        have W3 := (W2.spr S2' j1 nw).spr T1 j2 nw
        obtain ⟨vs3, hw3, dt3⟩ := id W3
        refine ⟨_, rfl, .inl ⟨rfl, _, SqL.of hw3⟩, _, rfl, _, rfl, _, rfl, _, rfl, _, rfl, r, v2, rfl, T2, v20, by omega, fun m3 G3 c3 d3 T3 j3 => ⟨_, _, rfl, rfl, _, _, rfl, rfl, (by show (0 : Int) < 20; decide), (by show 3 ≤ sizeLine; decide), fun tp htp => ?_⟩⟩
        have W4 := W3.spr T2 j3 nw
        have smt := same_new (o := HO.tup [V.int ((n4 + m1) % 8), V.str kind, V.int ((n6 + m3) % 20)]) htp
        obtain ⟨vs5, hw5, dt5⟩ := W4.same smt
        have len5 : vs5.length = i := by rw [dt5.length, List.length_map, len2]
        refine ⟨w, vs5, _, rfl, rfl, hw5, (by rw [len5, sizeLine_eq]; omega), ?_⟩
        have kset : Kp w (upd G3 tp (HO.tup [V.int ((n4 + m1) % 8), V.str kind, V.int ((n6 + m3) % 20)])) (upd (upd G3 tp (HO.tup [V.int ((n4 + m1) % 8), V.str kind, V.int ((n6 + m3) % 20)])) w (HO.lst (vs5 ++ [V.ref tp]))) := Kp.set
        refine ⟨ws ++ [((n4 + m1) % 8, kind, (n6 + m3) % 20)], _, _, _, rfl, ⟨_, upd_same, ?_⟩, ?_, ?_, ?_, ?_, ?_⟩
        · rw [List.map_append]
          refine Dats.append (Dats.keep (kset.tups hw5) _ (imms_map _ imm_tD ws) dt5) ?_
          exact dats_one (dat_tch (x := ((n4 + m1) % 8, kind, (n6 + m3) % 20)) (kset _ _ upd_same (ne_of upd_same hw5 (by intro z; cases z))))
        · intro x hx
          rcases List.mem_append.mp hx with hx | hx
          · exact ok2 x hx
          · rw [List.mem_singleton] at hx
            subst hx
            exact ⟨⟨Int.emod_nonneg _ (by decide), Int.emod_lt_of_pos _ (by decide)⟩, hks.2.2 kind (List.mem_of_getElem? ekind), ⟨Int.emod_nonneg _ (by decide), Int.emod_lt_of_pos _ (by decide)⟩⟩
        · rw [List.length_append, len2]; rfl
        · exact (T3.keep smt).keep' kset nw.symm
        · have u1 : Kp r H G3 := ((kp2.trans j1).trans j2).trans j3
          intro b o e n
          refine kset b o (smt b o (u1 b o e n)) ?_
          rintro rfl
          rw [fresh] at e
          cases e
        · exact kset _ _ (smt _ _ (j3 _ _ hk4 nk)) nwk.symm
      · rintro σ H2 ⟨ws, x1, x2, x3, rfl, W2, ok2, len2, S2', kp2, hk2⟩
        exact ⟨_, rfl, k w ws H2 fresh W2 ok2 (by omega) S2' kp2⟩
    refine ⟨rfl, _, rfl, ?_⟩
    have hq7 := k7 _ _ (upd_same (H := H6) (a := q) (o := HO.lst [V.str "load", V.str "store", V.str "swap"])) nq
    have k67 : Kp r H H7 := (kk.trans (.of_same sm3)).trans k7
    refine ite2 (fun _ => ?_) (fun _ => ?_)
    · refine ⟨(by show 6 ≤ sizeLine; decide), fun q2 hq2 => ?_⟩
      have sm5 := same_new (o := HO.lst [V.str "load", V.str "load", V.str "load", V.str "load", V.str "store", V.str "swap"]) hq2
      have nq2 : q2 ≠ r := by
        obtain ⟨f, t, c, e, _⟩ := S7
        exact (ne_of_none e hq2).symm
      exact rest q2 ["load", "load", "load", "load", "store", "swap"] _ ⟨by decide, by decide, by simp⟩ nq2 upd_same (S7.keep sm5) (k67.trans (.of_same sm5)) _ rfl
    · exact rest q ["load", "store", "swap"] _ ⟨by decide, by decide, by simp⟩ nq hq7 S7 k67 _ rfl

theorem dat_tch_inv {H : Hp} {v : V} {x : Tch} (h : Dat H v (tD x)) : ∃ t, v = .ref t ∧ H t = some (.tup [.int x.1, .str x.2.1, .int x.2.2]) := by
  simp only [tD, Dat] at h
  obtain ⟨t, vs, e, q, d⟩ := h
  match vs, d with
  | [a, b, c], d =>
    simp only [Dats, Dat, and_true] at d
    obtain ⟨rfl, rfl, rfl⟩ := d
    exact ⟨t, e, q⟩
  | [], d => simp only [Dats] at d
  | [_], d => simp only [Dats, and_false] at d
  | [_, _], d => simp only [Dats, and_false] at d
  | _ :: _ :: _ :: _ :: _, d => simp only [Dats, and_false] at d

/-! ### webs compared -/
theorem eqv_tD (x y : Tch) : PyData.eqv (tD x) (tD y) = decide (x = y) := by
  obtain ⟨a, b, c⟩ := x
  obtain ⟨a', b', c'⟩ := y
  simp only [tD, PyData.eqv, PyData.eqvAll, Bool.and_true]
  by_cases e1 : a = a'
  · subst e1
    by_cases e2 : b = b'
    · subst e2
      by_cases e3 : c = c'
      · subst e3; simp
      · simp [e3]
    · simp [e2]
  · simp [e1]
theorem shaped_web {ws : List Tch} (ok : ∀ x ∈ ws, TchOk x) : SeqAt.shaped (.list (ws.map tD)) = true := by
  refine shaped_list tD 1 (by decide) (fun x hx => ?_) (fun x _ => by show (max 0 (max 0 (max 0 0))) + 1 ≤ 1; decide)
  have e : PyData.canLay0 (tD x) = (true && (PyData.strOk x.2.1 && (true && true))) := rfl
  rw [e]
  rcases (ok x hx).2.1 with q | q | q <;> rw [q] <;> decide +kernel
theorem web_get {H : Hp} {a : Addr} {ws : List Tch} {i : Nat} {x : Tch} (h : WebAt H a ws) (e : ws[i]? = some x) : ∃ vs t, H a = some (.lst vs) ∧ vs[i]? = some (.ref t) ∧ H t = some (.tup [.int x.1, .str x.2.1, .int x.2.2]) := by
  obtain ⟨vs, ha, d⟩ := h
  obtain ⟨v, ev, dv⟩ := d.getD (i := i) (d := tD x) (by rw [List.getElem?_map, e]; rfl)
  obtain ⟨t, rfl, ht⟩ := dat_tch_inv dv
  exact ⟨vs, t, ha, ev, ht⟩

/-! ### records -/
abbrev Nt := Int × Int × Int × Int
def nV (x : Nt) : List V := [.int x.1, .int x.2.1, .int x.2.2.1, .int x.2.2.2]
def gI (cs : List Int) (h : Int) : Int := (cs[h.toNat]?).getD 0
theorem atI_gI {cs : List Int} {h : Int} (h0 : 0 ≤ h) (h1 : h < cs.length) : atI (cs.map V.int) h = some (.int (gI cs h)) := by
  obtain ⟨m, rfl⟩ := Int.eq_ofNat_of_zero_le h0
  have : m < cs.length := by (clear h0; omega)
  refine atI_nat ?_
  simp [gI, this]
theorem ixN_nat {n : Nat} {i : Int} (h0 : 0 ≤ i) (h1 : i < n) : ixN n i = some i.toNat := by unfold ixN; rw [if_pos h0, if_pos h1]
theorem gI_set {cs : List Int} {h k v : Int} (h0 : 0 ≤ h) (h1 : h < cs.length) (k0 : 0 ≤ k) : gI (cs.set h.toNat v) k = if k = h then v else gI cs k := by
  unfold gI
  rw [List.getElem?_set]
  by_cases e : k = h
  · subst e
    have : k.toNat < cs.length := by (clear h0; omega)
    simp [this]
  · have : ¬ h.toNat = k.toNat := by (clear h1; omega)
    simp [e, this]
theorem cut4a (a b c d : V) : cutV [a, b, c, d] none (some 2) = [a, b] := cut_take _ 2
theorem cut4b (a b c d : V) : cutV [a, b, c, d] (some 2) none = [c, d] := cut_drop _ 2
theorem part4a {α : Type} (xs : List α) (h : xs.length = 4) : ¬ (HT.sIx xs.length 0 none = 0 ∧ HT.sIx xs.length xs.length (some 2) = xs.length) := by
  rw [h]; decide
theorem part4b {α : Type} (xs : List α) (h : xs.length = 4) : ¬ (HT.sIx xs.length 0 (some 2) = 0 ∧ HT.sIx xs.length xs.length none = xs.length) := by
  rw [h]; decide

/-! ### pairs -/
abbrev Prs := Int × Int
def pD (x : Prs) : PyData := .tuple [.int x.1, .int x.2]
theorem imm_pD (x : Prs) : imm (pD x) = true := rfl
theorem dat_prs {H : Hp} {t : Addr} {x : Prs} (h : H t = some (.tup [.int x.1, .int x.2])) : Dat H (.ref t) (pD x) := by
  simp only [pD, Dat]
  exact ⟨t, _, rfl, h, by simp only [Dats, Dat, and_self]⟩
theorem dat_prs_inv {H : Hp} {v : V} {x : Prs} (h : Dat H v (pD x)) : ∃ t, v = .ref t ∧ H t = some (.tup [.int x.1, .int x.2]) := by
  simp only [pD, Dat] at h
  obtain ⟨t, vs, e, q, d⟩ := h
  match vs, d with
  | [a, b], d =>
    simp only [Dats, Dat, and_true] at d
    obtain ⟨rfl, rfl⟩ := d
    exact ⟨t, e, q⟩
  | [], d => simp only [Dats] at d
  | [_], d => simp only [Dats, and_false] at d
  | _ :: _ :: _ :: _, d => simp only [Dats, and_false] at d
def PrsAt (H : Hp) (a : Addr) (ps : List Prs) : Prop := ∃ vs, H a = some (.lst vs) ∧ Dats H vs (ps.map pD)
theorem PrsAt.same {H H' : Hp} {a : Addr} {ws : List Prs} (h : PrsAt H a ws) (k : Same H H') : PrsAt H' a ws := by
  obtain ⟨vs, e, d⟩ := h
  exact ⟨vs, k _ _ e, Dats.keep k.tups _ (imms_map _ imm_pD ws) d⟩
theorem PrsAt.kp {H H' : Hp} {a r : Addr} {ws : List Prs} {ys : List V} (h : PrsAt H a ws) (hr : H r = some (.lst ys)) (k : Kp r H H') (n : a ≠ r) : PrsAt H' a ws := by
  obtain ⟨vs, e, d⟩ := h
  exact ⟨vs, k _ _ e n, Dats.keep (k.tups hr) _ (imms_map _ imm_pD ws) d⟩
theorem eqv_pD (x y : Prs) : PyData.eqv (pD x) (pD y) = decide (x = y) := by
  obtain ⟨a, b⟩ := x
  obtain ⟨c, d⟩ := y
  simp only [pD, PyData.eqv, PyData.eqvAll, Bool.and_true]
  by_cases e1 : a = c
  · subst e1
    by_cases e2 : b = d
    · subst e2; simp
    · simp [e2]
  · simp [e1]
theorem shaped_prs (ps : List Prs) : SeqAt.shaped (.list (ps.map pD)) = true := shaped_list pD 1 (by decide) (fun x _ => rfl) (fun x _ => by show (max 0 (max 0 0)) + 1 ≤ 1; decide)
theorem prs_get {H : Hp} {vs : List V} {ps : List Prs} {i : Nat} {v : V} (d : Dats H vs (ps.map pD)) (e : vs[i]? = some v) : ∃ x t, ps[i]? = some x ∧ v = .ref t ∧ H t = some (.tup [.int x.1, .int x.2]) := by
  obtain ⟨q, eq, dq⟩ := d.get e
  rw [List.getElem?_map] at eq
  cases ex : ps[i]? with
  | none => rw [ex] at eq; cases eq
  | some x =>
    rw [ex] at eq
    cases eq
    obtain ⟨t, rfl, ht⟩ := dat_prs_inv dq
    exact ⟨x, t, rfl, rfl, ht⟩

/-! ### names of touches -/
/-- how many touches of the hand -/
def cnt (ws : List Tch) (h : Int) : Int := ((ws.filter fun x => decide (x.1 = h)).length : Int)
theorem cnt_snoc (ws : List Tch) (x : Tch) (h : Int) : cnt (ws ++ [x]) h = if h = x.1 then cnt ws h + 1 else cnt ws h := by
  unfold cnt
  rw [List.filter_append, List.length_append]
  by_cases e : h = x.1
  · subst e; simp
  · rw [if_neg e]
    have : ¬ x.1 = h := fun z => e z.symm
    simp [this]
def hnd (ws : List Tch) (i : Nat) : Int := match ws[i]? with | some x => x.1 | none => 0
theorem hnd_of {ws : List Tch} {i : Nat} {x : Tch} (h : ws[i]? = some x) : hnd ws i = x.1 := by unfold hnd; rw [h]
def nm (ws : List Tch) : List Prs := (List.range ws.length).map fun i => (hnd ws i, cnt (ws.take i) (hnd ws i))
theorem nm_snoc (ws : List Tch) (x : Tch) : nm (ws ++ [x]) = nm ws ++ [(x.1, cnt ws x.1)] := by
  unfold nm
  rw [List.length_append, List.length_singleton, List.range_succ, List.map_append]
  congr 1
  · refine List.map_congr_left fun i hi => ?_
    have hi' : i < ws.length := by simpa using hi
    unfold hnd
    rw [List.getElem?_append_left hi', List.take_append_of_le_length (by omega)]
  · simp [hnd]
theorem nm_length (ws : List Tch) : (nm ws).length = ws.length := by unfold nm; simp

theorem PrsAt.spr {H H' : Hp} {a r : Addr} {ws : List Prs} (h : PrsAt H a ws) (hr : SpringOk H r) (k : Kp r H H') (n : a ≠ r) : PrsAt H' a ws := by
  obtain ⟨f, t, c, e, _⟩ := hr
  exact h.kp e k n
def spNames (K : PySem.W.Frag) : Sp := fun vs H Q _ => ∃ (a : Addr) (ws : List Tch), vs = [.ref a] ∧ WebAt H a ws ∧ ws.length ≤ 1000 ∧ ∀ (r : Addr) (H' : Hp), H r = none → PrsAt H' r (nm ws) → Same H H' → Q (.ref r) H'
theorem ok_names {f : Addr} {fd : FuncData} (F : Fun K "names" "names" s_names f fd) : FnOk P w K mg base CX0 1 f fd ["web"] (spNames K) := by
  refine F.ok sc_names (fun vs H Q E h => ?_) (fun cdv A outer s H vs Q E hr h => ?_)
  · obtain ⟨a, ws, rfl, _⟩ := h
    rfl
  · obtain ⟨a, ws, rfl, W, hlen, k⟩ := h
    have hu := hu_of hr
    refine ⟨_, (pss_cons (ps_set (i := 1) sc_names.nd rfl (Or.inl rfl) pe_dnewK)
      (pss_cons (ps_set (i := 2) sc_names.nd rfl (Or.inl rfl) (pe_lst pa_nil))
      (pss_cons (ps_for PassesOwn.never rfl (pi_listK (K := K) rfl (pv 0)) (pg_name (i := 3) sc_names.nd rfl (Or.inl rfl))
      (pss_cons (ps_set (i := 4) sc_names.nd rfl (Or.inl rfl) (pe_dget2 hu (pv 1) (pe_ix (ix_tupK (K := K) rfl) (pv 3) pe_int (fun _ _ => rfl)) pe_int ⟨rfl, rfl, rfl, rfl⟩))
      (pss_cons (ps_expr (pe_appendK (K := K) rfl (pv 2) (pa_cons (pe_tup (pa_cons (pe_ix (ix_tupK (K := K) rfl) (pv 3) pe_int (fun _ _ => rfl)) (pa_cons (pv 4) pa_nil))) pa_nil)))
      (pss_one (ps_dput hu (pv 1) (pe_ix (ix_tupK (K := K) rfl) (pv 3) pe_int (fun _ _ => rfl)) (pe_op op_add (pv 4) pe_int) rfl)))))
      (pss_one (ps_ret (pv 2)))))), ?_⟩
    obtain ⟨vs, ha, dv⟩ := id W
    have vlen : vs.length = ws.length := by rw [dv.length, List.length_map]
    intro d hd
    have sm1 := same_new (o := HO.dK []) hd
    refine ⟨(by show 0 ≤ sizeLine; decide), fun p hp => ?_⟩
    have sm2 := same_new (o := HO.lst []) hp
    have ndp : d ≠ p := ne_of_none upd_same hp
    have hp0 : H p = none := sm1.free hp
    refine ⟨_, rfl, a, rfl, ⟨_, SqL.of (sm2 _ _ (sm1 _ _ ha))⟩, for_list (K := K) (a := a) (xs := vs) (fun i σ H2 => ∃ (kvs : List (Key × V)) (x1 x2 : Option V), σ = [some (.ref a), some (.ref d), some (.ref p), x1, x2] ∧ Same H H2 ∧
      H2 d = some (.dK kvs) ∧ kvs.length ≤ i ∧ (∀ h : Int, (valV kvs (Sum.inl h)).getD (.int 0) = .int (cnt (ws.take i) h)) ∧ PrsAt H2 p (nm (ws.take i)))
      ⟨[], none, none, rfl, sm1.trans sm2, sm2 _ _ upd_same, Nat.zero_le _, fun h => rfl, ⟨[], upd_same, by simp only [List.take_zero, nm, List.length_nil, List.range_zero, List.map_nil, Dats]⟩⟩ (fun i σ H2 _ ⟨_, _, _, _, sm, _⟩ => SqL.of (sm _ _ ha)) ?_ ?_⟩
    · rintro i y σ H2 hi ⟨kvs, x1, x2, rfl, sm, hd2, kl, hval, PA⟩
      have hil : i < ws.length := by have := (List.getElem?_eq_some_iff.mp hi).1; omega
      obtain ⟨x, ex⟩ : ∃ x, ws[i]? = some x := ⟨ws[i], by simp [hil]⟩
      obtain ⟨dd, ed, dy⟩ := dv.get hi
      rw [List.getElem?_map, ex] at ed
      cases ed
      obtain ⟨t, rfl, ht⟩ := dat_tch_inv dy
      have ht2 : H2 t = some (.tup [.int x.1, .str x.2.1, .int x.2.2]) := sm.tups _ _ ht
      have tk : ws.take (i + 1) = ws.take i ++ [x] := by rw [List.take_add_one, ex]; rfl
      have tlen : (ws.take i).length = i := by rw [List.length_take]; omega
      -- k = counts.get(touch[0], 0)
      refine ⟨_, rfl, d, rfl, .inl ⟨_, .inl hd2⟩, _, rfl, _, _, _, _, rfl, rfl, SqT.of ht2, rfl, _, DGet.k (k := Sum.inl x.1) hd2, ?_⟩
      rw [hval x.1]
      -- told.append((touch[0], k))
      obtain ⟨ts, hts, dts⟩ := id PA
      refine ⟨_, rfl, .inl ⟨rfl, _, SqL.of hts⟩, _, rfl, _, _, _, _, rfl, rfl, SqT.of ht2, rfl, _, rfl, (by show 2 ≤ sizeLine; decide), fun q hq => ?_⟩
      have sm3 := same_new (o := HO.tup [V.int x.1, V.int (cnt (ws.take i) x.1)]) hq
      have hts3 := sm3 _ _ hts
      have tslen : ts.length = i := by rw [dts.length, List.length_map, nm_length, tlen]
      refine ⟨p, ts, _, rfl, rfl, hts3, (by rw [tslen, sizeLine_eq]; omega), ?_⟩
      have kset : Kp p (upd H2 q (HO.tup [V.int x.1, V.int (cnt (ws.take i) x.1)])) (upd (upd H2 q (HO.tup [V.int x.1, V.int (cnt (ws.take i) x.1)])) p (HO.lst (ts ++ [V.ref q]))) := Kp.set
      have hd4 := kset _ _ (sm3 _ _ hd2) ndp
      -- counts[touch[0]] = k + 1
      refine ⟨_, rfl, _, _, rfl, rfl, _, rfl, _, rfl, _, _, _, _, rfl, rfl, SqT.of (kset.tups hts3 _ _ (sm3.tups _ _ ht2)), rfl, d, _, rfl, DPut.k (k := Sum.inl x.1) hd4 (small1000 (by omega)), ?_⟩
      refine ⟨putK kvs (Sum.inl x.1) (V.int (cnt (ws.take i) x.1 + 1)), _, _, rfl, ?_, upd_same, ?_, fun h => ?_, ?_⟩
      · intro b o e
        have nb : b ≠ p := ne_of_none e hp0
        have nb2 : b ≠ d := ne_of_none e hd
        rw [upd_ne nb2]
        exact kset b o (sm3 b o (sm b o e)) nb
      · exact Nat.le_trans (length_putK ..) (by omega)
      · rw [valV_put, tk, cnt_snoc]
        by_cases e : h = x.1
        · subst e
          rw [if_pos rfl, if_pos rfl]; rfl
        · rw [if_neg (fun z => e (Sum.inl.inj z)), if_neg e]
          exact hval h
      · rw [tk, nm_snoc]
        have kd2 : Kp d (upd (upd H2 q (HO.tup [V.int x.1, V.int (cnt (ws.take i) x.1)])) p (HO.lst (ts ++ [V.ref q]))) (upd (upd (upd H2 q (HO.tup [V.int x.1, V.int (cnt (ws.take i) x.1)])) p (HO.lst (ts ++ [V.ref q]))) d (HO.dK (putK kvs (Sum.inl x.1) (V.int (cnt (ws.take i) x.1 + 1))))) := Kp.set
        have tups2 : ∀ a xs, (upd H2 q (HO.tup [V.int x.1, V.int (cnt (ws.take i) x.1)])) a = some (HO.tup xs) → (upd (upd (upd H2 q (HO.tup [V.int x.1, V.int (cnt (ws.take i) x.1)])) p (HO.lst (ts ++ [V.ref q]))) d (HO.dK (putK kvs (Sum.inl x.1) (V.int (cnt (ws.take i) x.1 + 1))))) a = some (HO.tup xs) := fun a xs hx =>
          kd2.tups' hd4 _ _ (kset.tups hts3 _ _ hx)
        refine ⟨_, kd2 _ _ upd_same ndp.symm, ?_⟩
        rw [List.map_append]
        refine Dats.append (Dats.keep (fun a xs hx => tups2 a xs (sm3.tups _ _ hx)) _ (imms_map _ imm_pD _) dts) (dats_one (dat_prs (x := (x.1, cnt (ws.take i) x.1)) ?_))
        exact kd2 _ _ (kset _ _ upd_same (ne_of upd_same hts3 (by intro z; cases z))) (ne_of (kset _ _ upd_same (ne_of upd_same hts3 (by intro z; cases z))) hd4 (by intro z; cases z))
    · rintro σ H2 ⟨kvs, x1, x2, rfl, sm, hd2, kl, hval, PA⟩
      rw [vlen, List.take_length] at PA
      exact ⟨_, rfl, k p H2 hp0 PA sm⟩

def mt (x y : Tch) : Bool := if x.1 = y.1 then false else if x.2.2 = y.2.2 then (if x.2.1 = "load" then !decide (y.2.1 = "load") else true) else false
def spWh (K : PySem.W.Frag) : Sp := fun vs H Q _ => ∃ i : Int, vs = [.int i] ∧ Q (.bl true) H
theorem ok_is_whole {f : Addr} {fd : FuncData} (F : Fun K "is_whole" "is_whole" s_is_whole f fd) (Bt : Blt mg) : FnOk P w K mg base CX0 1 f fd ["value"] (spWh K) := by
  refine F.ok sc_is_whole (fun vs H Q E h => ?_) (fun cdv A outer s H vs Q E hr h => ?_)
  · obtain ⟨i, rfl, _⟩ := h
    rfl
  · obtain ⟨i, rfl, k⟩ := h
    refine ⟨_, (pss_one (ps_ret (pe_and (pe_callB (call_isiK (K := K) (cv := .ty "int") (c := .type "int") rfl rfl) (by rfl) Bt.b_isinstance bt_isinstance (pa_cons (pv 0) (pa_cons (pe_bltn (v := .ty "int") (by rfl) Bt.b_int bt_int rfl) pa_nil))) (pe_one (pe_not (pe_callB (call_isiK (K := K) (cv := .ty "bool") (c := .type "bool") rfl rfl) (by rfl) Bt.b_isinstance bt_isinstance (pa_cons (pv 0) (pa_cons (pe_bltn (v := .ty "bool") (by rfl) Bt.b_bool bt_bool rfl) pa_nil)))))))), ?_⟩
    refine ⟨_, rfl, _, _, true, rfl, .int i, isi_int_int K, true, rfl, ?_⟩
    refine iteT ?_
    exact ⟨_, rfl, _, _, false, rfl, .int i, isi_int_bool K, false, rfl, k⟩
def spMt (K : PySem.W.Frag) : Sp := fun vs H Q _ => ∃ (a b : Addr) (x y : Tch), vs = [.ref a, .ref b] ∧ H a = some (.tup [.int x.1, .str x.2.1, .int x.2.2]) ∧ H b = some (.tup [.int y.1, .str y.2.1, .int y.2.2]) ∧ Q (.bl (mt x y)) H
theorem mt_read {K : PySem.W.Frag} {a b : Addr} {x y : Tch} {H : Hp} {Q : VK} (ha : H a = some (.tup [.int x.1, .str x.2.1, .int x.2.2])) (hb : H b = some (.tup [.int y.1, .str y.2.1, .int y.2.2])) (k : Q (.bl (mt x y)) H) {D : Ends} (hD : D.rt = Q) :
    (tSeq (tIfS (tOr (tTest (tOp rEq (tOp (rIxT K) (tVar 0) (tC (.int 0))) (tOp (rIxT K) (tVar 1) (tC (.int 0))))) (tTest (tOp rNe (tOp (rIxT K) (tVar 0) (tC (.int 2))) (tOp (rIxT K) (tVar 1) (tC (.int 2)))))) (tRet (tC (.bl false))) tNext)
      (tRet (tOrV (tOp rNe (tOp (rIxT K) (tVar 0) (tC (.int 1))) (tC (.str "load"))) (tOp rNe (tOp (rIxT K) (tVar 1) (tC (.int 1))) (tC (.str "load")))))) D [some (.ref a), some (.ref b)] H := by
  refine ⟨_, rfl, _, _, _, _, rfl, rfl, SqT.of ha, rfl, _, rfl, _, _, _, _, rfl, rfl, SqT.of hb, rfl, rfl, _, rfl, ?_⟩
  refine ite2 (fun h1 => ?_) (fun h1 => ?_)
  · have e : x.1 = y.1 := by injection (of_decide_eq_true h1)
    have em : mt x y = false := by unfold mt; rw [if_pos e]
    refine (show D.rt (.bl false) H from ?_)
    rw [hD, ← em]
    exact k
  · have e : ¬ x.1 = y.1 := fun z => h1 (decide_eq_true (by rw [z]))
    refine ⟨_, rfl, _, _, _, _, rfl, rfl, SqT.of ha, rfl, _, rfl, _, _, _, _, rfl, rfl, SqT.of hb, rfl, rfl, _, rfl, ?_⟩
    by_cases e2 : x.2.2 = y.2.2
    · refine iteNS (by rw [e2]) ?_
      refine ⟨_, rfl, _, _, _, _, rfl, rfl, SqT.of ha, rfl, rfl, _, rfl, ?_⟩
      by_cases e3 : x.2.1 = "load"
      · refine iteNS (by rw [e3]) ?_
        refine ⟨_, rfl, _, _, _, _, rfl, rfl, SqT.of hb, rfl, rfl, ?_⟩
        have em : mt x y = !decide (V.str y.2.1 = V.str "load") := by
          unfold mt
          rw [if_neg e, if_pos e2, if_pos e3]
          congr 1
          rw [Bool.eq_iff_iff, decide_eq_true_iff, decide_eq_true_iff]
          exact ⟨fun z => by rw [z], fun z => by injection z⟩
        rw [← em, hD]
        exact k
      · have ne : ¬ V.str x.2.1 = V.str "load" := fun z => e3 (by injection z)
        rw [decide_eq_false ne]
        refine iteT ?_
        have em : mt x y = true := by unfold mt; rw [if_neg e, if_pos e2, if_neg e3]
        rw [← em, hD]
        exact k
    · have ne : ¬ V.int x.2.2 = V.int y.2.2 := fun z => e2 (by injection z)
      rw [decide_eq_false ne]
      refine iteT ?_
      have em : mt x y = false := by unfold mt; rw [if_neg e, if_neg e2]
      refine (show D.rt (.bl false) H from ?_)
      rw [hD, ← em]
      exact k
theorem ok_touches_meet {f : Addr} {fd : FuncData} (F : Fun K "touches_meet" "touches_meet" s_touches_meet f fd) : FnOk P w K mg base CX0 1 f fd ["one", "other"] (spMt K) := by
  refine F.ok sc_touches_meet (fun vs H Q E h => ?_) (fun cdv A outer s H vs Q E hr h => ?_)
  · obtain ⟨a, b, x, y, rfl, _⟩ := h
    rfl
  · obtain ⟨a, b, x, y, rfl, ha, hb, k⟩ := h
    exact ⟨_, (pss_cons (ps_if (PW.pt (pw_or (pt_cmpR op_eq (pe_ix (ix_tupK (K := K) rfl) (pv 0) pe_int (fun _ _ => rfl)) (pe_ix (ix_tupK (K := K) rfl) (pv 1) pe_int (fun _ _ => rfl)) (nomark _)) (pw_or1 (pt_cmpR op_ne (pe_ix (ix_tupK (K := K) rfl) (pv 0) pe_int (fun _ _ => rfl)) (pe_ix (ix_tupK (K := K) rfl) (pv 1) pe_int (fun _ _ => rfl)) (nomark _))))) (pss_one (ps_ret pe_bl)) pss_nil)
      (pss_one (ps_ret (pe_or (pe_cmpR op_ne (pe_ix (ix_tupK (K := K) rfl) (pv 0) pe_int (fun _ _ => rfl)) pe_str (nomark _)) (pe_one (pe_cmpR op_ne (pe_ix (ix_tupK (K := K) rfl) (pv 1) pe_int (fun _ _ => rfl)) pe_str (nomark _))))))), mt_read (K := K) ha hb k rfl⟩
theorem ok_Lmeets {f : Addr} {fd : FuncData} (F : Fun K "_law_meets" "_law_meets" s_Lmeets f fd) : FnOk P w K mg base CX0 1 f fd ["one", "other"] (spMt K) := by
  refine F.ok sc_Lmeets (fun vs H Q E h => ?_) (fun cdv A outer s H vs Q E hr h => ?_)
  · obtain ⟨a, b, x, y, rfl, _⟩ := h
    rfl
  · obtain ⟨a, b, x, y, rfl, ha, hb, k⟩ := h
    exact ⟨_, (pss_cons (ps_if (PW.pt (pw_or (pt_cmpR op_eq (pe_ix (ix_tupK (K := K) rfl) (pv 0) pe_int (fun _ _ => rfl)) (pe_ix (ix_tupK (K := K) rfl) (pv 1) pe_int (fun _ _ => rfl)) (nomark _)) (pw_or1 (pt_cmpR op_ne (pe_ix (ix_tupK (K := K) rfl) (pv 0) pe_int (fun _ _ => rfl)) (pe_ix (ix_tupK (K := K) rfl) (pv 1) pe_int (fun _ _ => rfl)) (nomark _))))) (pss_one (ps_ret pe_bl)) pss_nil)
      (pss_one (ps_ret (pe_or (pe_cmpR op_ne (pe_ix (ix_tupK (K := K) rfl) (pv 0) pe_int (fun _ _ => rfl)) pe_str (nomark _)) (pe_one (pe_cmpR op_ne (pe_ix (ix_tupK (K := K) rfl) (pv 1) pe_int (fun _ _ => rfl)) pe_str (nomark _))))))), mt_read (K := K) ha hb k rfl⟩

/-! ### the law's calls, steps and table -/
def spCalls (K : PySem.W.Frag) : Sp := fun vs H Q _ => ∃ (a : Addr) (ws : List Tch), vs = [.ref a] ∧ WebAt H a ws ∧ (∀ x ∈ ws, TchOk x) ∧ ws.length ≤ 300 ∧ ∀ (r : Addr) (H' : Hp), H r = none → PrsAt H' r (nm ws) → Same H H' → Q (.ref r) H'
theorem rep8 : (List.replicate ((8 : Int)).toNat [V.int 0]).flatten = (List.replicate 8 (0 : Int)).map V.int := rfl
theorem ok_calls {f : Addr} {fd : FuncData} (F : Fun K "_law_calls" "_law_calls" s_Lcalls f fd) (Bt : Blt mg) : FnOk P w K mg base CX0 1 f fd ["web"] (spCalls K) := by
  refine F.ok sc_Lcalls (fun vs H Q E h => ?_) (fun cdv A outer s H vs Q E hr h => ?_)
  · obtain ⟨a, ws, rfl, _⟩ := h
    rfl
  · obtain ⟨a, ws, rfl, W, ok, wl, k⟩ := h
    obtain ⟨vs, ha, dv⟩ := id W
    have vlen : vs.length = ws.length := by rw [dv.length, List.length_map]
    refine ⟨_, (pss_cons (ps_set (i := 1) sc_Lcalls.nd rfl (Or.inl rfl) (pe_op op_rep (pe_lst (pa_cons pe_int pa_nil)) pe_int))
      (pss_cons (ps_set (i := 2) sc_Lcalls.nd rfl (Or.inl rfl) (pe_lst pa_nil))
      (pss_cons (ps_for PassesOwn.never rfl (pi_listK (K := K) rfl (pv 0)) (pg_tupK (K := K) (n := 3) rfl rfl (pgs_cons (pg_name (i := 3) sc_Lcalls.nd rfl (Or.inl rfl)) (pgs_cons (pg_name (i := 4) sc_Lcalls.nd rfl (Or.inl rfl)) (pgs_cons (pg_name (i := 5) sc_Lcalls.nd rfl (Or.inl rfl)) pgs_nil))))
      (pss_cons (ps_expr (pe_appendK (K := K) rfl (pv 2) (pa_cons (pe_tup (pa_cons (pv 3) (pa_cons (pe_ix (ix_listK (K := K) rfl) (pv 1) (pv 3) (fun _ _ => rfl)) pa_nil))) pa_nil)))
      (pss_one (ps_asg (pe_op op_add (pe_ix (ix_listK (K := K) rfl) (pv 1) (pv 3) (fun _ _ => rfl)) pe_int) (pg_sub (pv 1) (pv 3) set_list)))))
      (pss_one (ps_ret (pv 2)))))), ?_⟩
    refine ⟨(by show 1 ≤ sizeLine; decide), fun l hl => ?_⟩
    have s1 := same_new (o := HO.lst [V.int 0]) hl
    refine ⟨l, _, _, rfl, rfl, upd_same, by decide, by decide, by rw [sizeLine_eq]; simp, fun m hm => ?_⟩
    rw [rep8]
    have s2 := same_new (o := HO.lst ((List.replicate 8 (0 : Int)).map V.int)) hm
    have s12 := s1.trans s2
    have hm0 : H m = none := s1.free hm
    refine ⟨(by show 0 ≤ sizeLine; decide), fun r hr' => ?_⟩
    have s3 := same_new (o := HO.lst []) hr'
    have s13 := s12.trans s3
    have hr0 : H r = none := s12.free hr'
    have nmr : m ≠ r := ne_of_none upd_same hr'
    refine ⟨_, rfl, a, rfl, ⟨_, SqL.of (s13 _ _ ha)⟩, ?_⟩
    refine for_list (K := K) (a := a) (xs := vs) (fun i σ H2 => ∃ (ms : List Int) (x1 x2 x3 : Option V), σ = [some (.ref a), some (.ref m), some (.ref r), x1, x2, x3] ∧ Same H H2 ∧ H2 m = some (.lst (ms.map V.int)) ∧ ms.length = 8 ∧ (∀ h : Int, 0 ≤ h → h < 8 → gI ms h = cnt (ws.take i) h) ∧ PrsAt H2 r (nm (ws.take i)))
      ⟨List.replicate 8 0, none, none, none, rfl, s13, s3 _ _ upd_same, by simp, fun h h0 h1 => ?_, ⟨[], upd_same, by simp only [List.take_zero, nm, List.length_nil, List.range_zero, List.map_nil, Dats]⟩⟩ (fun i σ H2 _ ⟨_, _, _, _, _, sm, _⟩ => SqL.of (sm _ _ ha)) ?_ ?_
    · have : gI (List.replicate 8 0) h = 0 := by unfold gI; rw [List.getElem?_replicate]; split <;> rfl
      rw [this]; rfl
    · rintro i y σ H2 hi ⟨ms, x1, x2, x3, rfl, sm, hm2, ml, hg, PA⟩
      have hil : i < ws.length := by have := (List.getElem?_eq_some_iff.mp hi).1; omega
      obtain ⟨x, ex⟩ : ∃ x, ws[i]? = some x := ⟨ws[i], by simp [hil]⟩
      obtain ⟨dd, ed, dy⟩ := dv.get hi
      rw [List.getElem?_map, ex] at ed
      cases ed
      obtain ⟨t, rfl, ht⟩ := dat_tch_inv dy
      obtain ⟨⟨x0, x1'⟩, _⟩ := ok x (List.mem_of_getElem? ex)
      have tk : ws.take (i + 1) = ws.take i ++ [x] := by rw [List.take_add_one, ex]; rfl
      have tlen : (ws.take i).length = i := by rw [List.length_take]; omega
      have gx := hg x.1 x0 x1'
      refine ⟨t, _, rfl, SqT.of (sm _ _ ht), rfl, _, _, rfl, _, _, rfl, _, _, rfl, rfl, ?_⟩
      obtain ⟨ts, hts, dts⟩ := id PA
      have tsl : ts.length = i := by rw [dts.length, List.length_map, nm_length, tlen]
      refine ⟨_, rfl, .inl ⟨rfl, _, SqL.of hts⟩, _, rfl, _, rfl, _, rfl, _, _, _, _, rfl, rfl, SqL.of hm2, atI_gI x0 (by omega), (by show 2 ≤ sizeLine; decide), fun q hq => ?_⟩
      have s4 := same_new (o := HO.tup [V.int x.1, V.int (gI ms x.1)]) hq
      refine ⟨r, ts, _, rfl, rfl, s4 _ _ hts, by rw [sizeLine_eq]; omega, ?_⟩
      have k5 : Kp r (upd H2 q (.tup [V.int x.1, V.int (gI ms x.1)])) (upd (upd H2 q (.tup [V.int x.1, V.int (gI ms x.1)])) r (.lst (ts ++ [V.ref q]))) := Kp.set
      have t5 := k5.tups (s4 _ _ hts)
      have hm5 := k5 _ _ (s4 _ _ hm2) nmr
      refine ⟨_, rfl, _, rfl, _, _, _, _, rfl, rfl, SqL.of hm5, atI_gI x0 (by omega), _, _, rfl, rfl, _, rfl, _, rfl, _, _, _, _, rfl, rfl, hm5, ixN_nat x0 (by rw [List.length_map]; omega), ?_⟩
      have k6 : Kp m (upd (upd H2 q (.tup [V.int x.1, V.int (gI ms x.1)])) r (.lst (ts ++ [V.ref q]))) (upd (upd (upd H2 q (.tup [V.int x.1, V.int (gI ms x.1)])) r (.lst (ts ++ [V.ref q]))) m (.lst ((ms.map V.int).set x.1.toNat (V.int (gI ms x.1 + 1))))) := Kp.set
      have t6 := k6.tups hm5
      refine ⟨ms.set x.1.toNat (gI ms x.1 + 1), _, _, _, rfl, fun b u e => k6 _ _ (k5 _ _ (s4 _ _ (sm _ _ e)) (ne_of_none e hr0)) (ne_of_none e hm0), by rw [upd_same, List.map_set], by simp [ml], fun h h0 h1 => ?_, ?_⟩
      · rw [gI_set x0 (by omega) h0, tk, cnt_snoc]
        by_cases e : h = x.1
        · subst e; rw [if_pos rfl, if_pos rfl, gx]
        · rw [if_neg e, if_neg e]; exact hg h h0 h1
      · rw [tk, nm_snoc]
        refine ⟨ts ++ [V.ref q], k6 _ _ upd_same nmr.symm, ?_⟩
        rw [List.map_append]
        refine Dats.append (Dats.keep (fun a xs h => t6 _ _ (t5 _ _ (s4.tups _ _ h))) _ (imms_map _ imm_pD _) dts) (dats_one (dat_prs (x := (x.1, cnt (ws.take i) x.1)) ?_))
        have := t6 _ _ (t5 _ _ (upd_same (H := H2) (a := q) (o := HO.tup [V.int x.1, V.int (gI ms x.1)])))
        rw [gx] at this
        rw [gx]
        exact this
    · rintro σ H2 ⟨ms, x1, x2, x3, rfl, sm, hm2, ml, hg, PA⟩
      rw [vlen, List.take_length] at PA
      exact ⟨_, rfl, k r H2 hr0 PA sm⟩

theorem atI0 {vs : List V} {i : Nat} {v : V} (h : vs[i]? = some v) : atI vs (0 + (i : Int)) = some v := by rw [Int.zero_add]; exact atI_nat h
theorem nm_get {ws : List Tch} {i : Nat} {x : Tch} (e : ws[i]? = some x) : (nm ws)[i]? = some (x.1, cnt (ws.take i) x.1) := by
  have : i < ws.length := (List.getElem?_eq_some_iff.mp e).1
  unfold nm
  rw [List.getElem?_map, List.getElem?_range this]
  simp only [Option.map_some, hnd_of e]
theorem prs_at {H : Hp} {a : Addr} {ps : List Prs} {i : Nat} {x : Prs} (h : PrsAt H a ps) (e : ps[i]? = some x) : ∃ vs t, H a = some (.lst vs) ∧ vs[i]? = some (.ref t) ∧ H t = some (.tup [.int x.1, .int x.2]) := by
  obtain ⟨vs, ha, d⟩ := h
  obtain ⟨v, ev, dv⟩ := d.getD (i := i) (d := pD x) (by rw [List.getElem?_map, e]; rfl)
  obtain ⟨t, rfl, ht⟩ := dat_prs_inv dv
  exact ⟨vs, t, ha, ev, ht⟩

/-! ### cuts -/
def spIsNote (K : PySem.W.Frag) : Sp := fun vs H Q _ => ∃ (t : Addr) (x : Nt), vs = [.ref t] ∧ H t = some (.tup (nV x)) ∧ ∀ H', Same H H' → Q (.bl (!decide (x.1 = x.2.2.1))) H'
theorem ok_is_note {f : Addr} {fd : FuncData} (F : Fun K "is_note" "is_note" s_is_note f fd) (F_is_whole : FnAt P w K mg base 1 "is_whole" ["value"] (spWh K)) (Bt : Blt mg) : FnOk P w K mg base CX0 2 f fd ["value"] (spIsNote K) := by
  refine F.ok sc_is_note (fun vs H Q E h => ?_) (fun cdv A outer s H vs Q E hr h => ?_)
  · obtain ⟨t, x, rfl, _⟩ := h
    rfl
  · obtain ⟨t, x, rfl, ht, k⟩ := h
    have hu64 := hr.units
    refine ⟨_, (pss_cons (ps_if (PW.pt (pw_or (pt_not (pt_val (pe_callB (call_isiK (K := K) (cv := .ty "tuple") (c := .type "tuple") rfl rfl) (by rfl) Bt.b_isinstance bt_isinstance (pa_cons (pv 0) (pa_cons (pe_bltn (v := .ty "tuple") (by rfl) Bt.b_tuple bt_tuple rfl) pa_nil))))) (pw_or1 (pt_cmpR op_ne (pe_callB (call_len_seqK (K := K) rfl) (by rfl) Bt.b_len bt_len (pa_cons (pv 0) pa_nil)) pe_int (nomark _))))) (pss_one (ps_ret pe_bl)) pss_nil)
      (pss_one (ps_ret (pe_and (pe_callB (call_all_boolsK (K := K) rfl rfl) (by rfl) Bt.b_all bt_all (pa_cons (pe_comp rfl (N := ["number"]) (own := ["number"]) (caps := []) (CompScope.of (by kernel_rfl)) (pi_tupK (K := K) rfl (pv 0)) (fun _ _ _ _ => (pg_name (i := 0) (show List.Nodup (["number"] : List Str) by decide +kernel) rfl (Or.inl rfl))) (fun _ _ _ _ => pts_nil) (fun _ _ _ _ => (pe_fn F_is_whole (hr.mono (by decide)) (by rfl) (pa_cons (pv 0) pa_nil)))) pa_nil)) (pe_one (pe_cmpR op_ne (pe_ix (ix_tupK (K := K) rfl) (pv 0) pe_int (fun _ _ => rfl)) (pe_ix (ix_tupK (K := K) rfl) (pv 0) pe_int (fun _ _ => rfl)) (nomark _))))))), ?_⟩
    refine ⟨_, rfl, _, _, true, rfl, .tup ht, isi_tuple_tuple K, true, rfl, ?_⟩
    refine iteF ?_
    refine ⟨_, rfl, t, _, rfl, .inr (SqT.of ht), rfl, _, rfl, ?_⟩
    refine iteNS (by rfl) ?_
    refine ⟨_, rfl, t, rfl, ⟨_, SqT.of ht⟩, fun D hD => ?_⟩
    refine comp_valT (K := K) (fun i => some (.bl true)) hD ht (by show 4 ≤ 100000; decide) (fun i v H2 G F hi s2 kG kF => ?_) (fun H2 s2 e2 => ?_)
    · obtain ⟨z, rfl⟩ : ∃ z, v = V.int z := by
        have hm := List.mem_of_getElem? hi
        simp only [nV, List.mem_cons, List.not_mem_nil, or_false] at hm
        rcases hm with rfl | rfl | rfl | rfl <;> exact ⟨_, rfl⟩
      exact ⟨_, rfl, z, rfl, kF _ H2 (Same.refl _) rfl⟩
    · refine ⟨D, [true, true, true, true], rfl, SqL.of e2, true, rfl, ?_⟩
      refine iteT ?_
      refine ⟨_, rfl, _, _, _, _, rfl, rfl, SqT.of (s2 _ _ ht), rfl, _, rfl, _, _, _, _, rfl, rfl, SqT.of (s2 _ _ ht), rfl, rfl, ?_⟩
      have e : (!decide (V.int x.1 = V.int x.2.2.1)) = (!decide (x.1 = x.2.2.1)) := by
        by_cases q : x.1 = x.2.2.1
        · simp [q]
        · simp [q]
      show Q (.bl (!decide (V.int x.1 = V.int x.2.2.1))) H2
      rw [e]
      exact k H2 s2

/-! ### places by names, strict notes, wants -/
theorem cnt_mono {ws : List Tch} {m n : Nat} (h : m ≤ n) (g : Int) : cnt (ws.take m) g ≤ cnt (ws.take n) g := by
  have e : ws.take n = ws.take m ++ (ws.take n).drop m := by
    have := List.take_append_drop m (ws.take n)
    rw [List.take_take, Nat.min_eq_left h] at this
    exact this.symm
  unfold cnt
  rw [e, List.filter_append, List.length_append]
  omega
theorem nm_some {ws : List Tch} {i : Nat} {x : Prs} (h : (nm ws)[i]? = some x) : ∃ y, ws[i]? = some y ∧ x = (y.1, cnt (ws.take i) y.1) := by
  have il : i < ws.length := by have := (List.getElem?_eq_some_iff.mp h).1; rw [nm_length] at this; exact this
  have e : ws[i]? = some ws[i] := by simp [il]
  rw [nm_get e] at h
  exact ⟨ws[i], e, (Option.some.inj h).symm⟩
theorem nm_lt {ws : List Tch} {i j : Nat} {x : Prs} (hi : (nm ws)[i]? = some x) (hj : (nm ws)[j]? = some x) : ¬ i < j := fun lt => by
  obtain ⟨y, ey, e1⟩ := nm_some hi
  obtain ⟨z, ez, e2⟩ := nm_some hj
  rw [e1] at e2
  injection e2 with h1 h2
  have tk : ws.take (i + 1) = ws.take i ++ [y] := by rw [List.take_add_one, ey]; rfl
  have m := cnt_mono (ws := ws) (m := i + 1) (n := j) lt y.1
  rw [tk, cnt_snoc, if_pos rfl] at m
  rw [← h1] at h2
  omega
theorem nm_inj {ws : List Tch} {i j : Nat} {x : Prs} (hi : (nm ws)[i]? = some x) (hj : (nm ws)[j]? = some x) : i = j := by
  have := nm_lt hi hj
  have := nm_lt hj hi
  omega
def kx (x : Prs) : List Key := [Sum.inl x.1, Sum.inl x.2]
theorem kx_inj {x y : Prs} (h : kx x = kx y) : x = y := by
  unfold kx at h
  injection h with h1 h2
  injection h2 with h2 _
  have a : x.1 = y.1 := Sum.inl.inj h1
  have b : x.2 = y.2 := Sum.inl.inj h2
  exact Prod.ext a b
def PlOk (kvs : List (List Key × V)) (ps : List Prs) : Prop := (∀ (m : Nat) (x : Prs), ps[m]? = some x → valV kvs (kx x) = some (.int m)) ∧ ∀ x : Prs, x ∉ ps → valV kvs (kx x) = none
def spPlaces (K : PySem.W.Frag) : Sp := fun vs H Q _ => ∃ (a : Addr) (ws : List Tch), vs = [.ref a] ∧ WebAt H a ws ∧ ws.length ≤ 300 ∧ ∀ (d : Addr) (kvs : List (List Key × V)) (H' : Hp), H d = none → H' d = some (.dT kvs) → PlOk kvs (nm ws) → Same H H' → Q (.ref d) H'
theorem ok_places {f : Addr} {fd : FuncData} (F : Fun K "places_of" "places_of" s_places_of f fd) (F_names : FnAt P w K mg base 1 "names" ["web"] (spNames K)) (Bt : Blt mg) : FnOk P w K mg base CX0 2 f fd ["web"] (spPlaces K) := by
  refine F.ok sc_places_of (fun vs H Q E h => ?_) (fun cdv A outer s H vs Q E hr h => ?_)
  · obtain ⟨a, ws, rfl, _⟩ := h
    rfl
  · obtain ⟨a, ws, rfl, W, wl, k⟩ := h
    have hu := hu_of hr
    refine ⟨_, (pss_cons (ps_set (i := 1) sc_places_of.nd rfl (Or.inl rfl) pe_dnewT)
      (pss_cons (ps_for PassesOwn.never rfl (pi_enumK (K := K) rfl (by rfl) Bt.b_enumerate (pa_cons (pe_fn F_names (hr.mono (by decide)) (by rfl) (pa_cons (pv 0) pa_nil)) pa_nil)) (pg_tupK (K := K) (n := 2) rfl rfl (pgs_cons (pg_name (i := 2) sc_places_of.nd rfl (Or.inl rfl)) (pgs_cons (pg_name (i := 3) sc_places_of.nd rfl (Or.inl rfl)) pgs_nil)))
      (pss_one (ps_dput hu (pv 1) (pv 3) (pv 2) rfl)))
      (pss_one (ps_ret (pv 1))))), ?_⟩
    intro d hd
    have s1 := same_new (o := HO.dT []) hd
    refine ⟨_, rfl, a, ws, rfl, W.same s1, by omega, fun p H2 hp PA s2 => ?_⟩
    obtain ⟨vs, hp2, dv⟩ := id PA
    have vl : vs.length = ws.length := by rw [dv.length, List.length_map, nm_length]
    refine ⟨p, vs, rfl, SqL.of hp2, ?_⟩
    have ndp : d ≠ p := ne_of_none upd_same hp
    refine for_enum (K := K) (a := p) (xs := vs) (fun i σ H3 => ∃ (kvs : List (List Key × V)) (x1 x2 : Option V), σ = [some (.ref a), some (.ref d), x1, x2] ∧ H3 d = some (.dT kvs) ∧ kvs.length ≤ i ∧ PlOk kvs ((nm ws).take i) ∧ Kp d H2 H3)
      ⟨[], none, none, rfl, s2 _ _ upd_same, Nat.le_refl _, ⟨fun m x e => by simp at e, fun x _ => rfl⟩, Kp.refl _ _⟩ (fun i σ H3 _ ⟨_, _, _, _, _, _, _, kp⟩ => SqL.of (kp _ _ hp2 ndp.symm)) ?_ ?_
    · rintro i v σ H3 q hi ⟨kvs, x1, x2, rfl, hd3, kl, pl, kp⟩ hq
      obtain ⟨x, t, ex, rfl, ht⟩ := prs_get dv hi
      have il := (List.getElem?_eq_some_iff.mp hi).1
      have sq := same_new (o := HO.tup [V.int i, V.ref t]) hq
      have ht3 : H3 t = some (.tup [.int x.1, .int x.2]) := kp _ _ ht (ne_of ht (s2 _ _ upd_same) (by intro z; cases z))
      refine ⟨q, _, rfl, SqT.of upd_same, rfl, _, _, rfl, _, _, rfl, rfl, ?_⟩
      refine ⟨_, rfl, _, rfl, _, rfl, d, _, rfl, DPut.t (k := kx x) (sq _ _ hd3) (sq _ _ ht3) (by rw [sizeLine_eq]; omega), ?_⟩
      have tk : (nm ws).take (i + 1) = (nm ws).take i ++ [x] := by rw [List.take_add_one, ex]; rfl
      have tl : ((nm ws).take i).length = i := by rw [List.length_take, nm_length]; omega
      refine ⟨putK kvs (kx x) (V.int i), _, _, rfl, upd_same, ?_, ⟨fun m y e => ?_, fun y hy => ?_⟩, fun b o e nb => ?_⟩
      · exact Nat.le_trans (length_putK ..) (by omega)
      · rw [valV_put]
        rw [tk] at e
        by_cases hm : m < i
        · rw [List.getElem?_append_left (by omega)] at e
          have ne : ¬ kx y = kx x := fun z => by
            have z := kx_inj z
            subst z
            have e' : (nm ws)[m]? = some y := by rw [List.getElem?_take_of_lt hm] at e; exact e
            have := nm_inj e' ex
            omega
          rw [if_neg ne]
          exact pl.1 m y e
        · rw [List.getElem?_append_right (by omega), tl] at e
          have ml : m - i < 1 := (List.getElem?_eq_some_iff.mp e).1
          have : m = i := by omega
          subst this
          rw [Nat.sub_self] at e
          cases e
          rw [if_pos rfl]
      · rw [tk] at hy
        have n1 : y ∉ (nm ws).take i := fun z => hy (List.mem_append.mpr (.inl z))
        have n2 : y ≠ x := fun z => hy (List.mem_append.mpr (.inr (by rw [z]; simp)))
        rw [valV_put, if_neg (fun z => n2 (kx_inj z))]
        exact pl.2 y n1
      · rw [upd_ne nb]
        exact sq _ _ (kp _ _ e nb)
    · rintro σ H3 ⟨kvs, x1, x2, rfl, hd3, kl, pl, kp⟩
      have e : (nm ws).take vs.length = nm ws := by rw [vl, ← nm_length ws, List.take_length]
      rw [e] at pl
      exact ⟨_, rfl, k d kvs H3 hd hd3 pl fun b o eb => kp _ _ (s2 _ _ (s1 _ _ eb)) (ne_of_none eb hd)⟩
def n1 (x : Nt) : Prs := (x.1, x.2.1)
def n2 (x : Nt) : Prs := (x.2.2.1, x.2.2.2)
/-- a strict note of the web, between these places -/
def StrAt (ws : List Tch) (x : Nt) (i j : Nat) : Prop := x.1 ≠ x.2.2.1 ∧ (nm ws)[i]? = some (n1 x) ∧ (nm ws)[j]? = some (n2 x) ∧ i < j
def StrP (ws : List Tch) (x : Nt) : Prop := ∃ i j, StrAt ws x i j
def WantP (ws : List Tch) (x : Nt) : Prop := ∃ i j y z, StrAt ws x i j ∧ ws[i]? = some y ∧ ws[j]? = some z ∧ mt y z = true
theorem mem_get {α : Type} {x : α} {l : List α} (h : x ∈ l) : ∃ i : Nat, l[i]? = some x := List.getElem?_of_mem h
def spStrict (K : PySem.W.Frag) : Sp := fun vs H Q _ => ∃ (d t : Addr) (kvs : List (List Key × V)) (ws : List Tch) (x : Nt), vs = [.ref d, .ref t] ∧ H d = some (.dT kvs) ∧ PlOk kvs (nm ws) ∧ H t = some (.tup (nV x)) ∧ ∀ (bl : Bool) (H' : Hp), (bl = true ↔ StrP ws x) → Same H H' → Q (.bl bl) H'
theorem ok_strict {f : Addr} {fd : FuncData} (F : Fun K "is_strict" "is_strict" s_is_strict f fd) (F_is_note : FnAt P w K mg base 2 "is_note" ["value"] (spIsNote K)) : FnOk P w K mg base CX0 3 f fd ["places", "note"] (spStrict K) := by
  refine F.ok sc_is_strict (fun vs H Q E h => ?_) (fun cdv A outer s H vs Q E hr h => ?_)
  · obtain ⟨d, t, kvs, ws, x, rfl, _⟩ := h
    rfl
  · obtain ⟨d, t, kvs, ws, x, rfl, hd, pl, ht, k⟩ := h
    have hu := hu_of hr
    refine ⟨_, (pss_cons (ps_if (PW.pt (pw_or (pt_not (pt_val (pe_fn F_is_note (hr.mono (by decide)) (by rfl) (pa_cons (pv 1) pa_nil)))) (pw_or (pt_cmp (pc_dnotin hu (pe_slice (sl_tupK (K := K) rfl) (pv 1) po_none (po_some pe_int)) (pv 0))) (pw_or1 (pt_cmp (pc_dnotin hu (pe_slice (sl_tupK (K := K) rfl) (pv 1) (po_some pe_int) po_none) (pv 0))))))) (pss_one (ps_ret pe_bl)) pss_nil)
      (pss_one (ps_ret (pe_cmpR op_lt (pe_dget hu (pv 0) (pe_slice (sl_tupK (K := K) rfl) (pv 1) po_none (po_some pe_int)) (fun _ _ => rfl)) (pe_dget hu (pv 0) (pe_slice (sl_tupK (K := K) rfl) (pv 1) (po_some pe_int) po_none) (fun _ _ => rfl)) (nomark _))))), ?_⟩
    refine ⟨_, rfl, t, x, rfl, ht, fun H1 s1 => ⟨_, rfl, ?_⟩⟩
    have ht1 := s1 _ _ ht
    have hd1 := s1 _ _ hd
    have no : ∀ {H' : Hp}, Same H1 H' → ¬ StrP ws x → Q (.bl false) H' := fun sm z => k false _ ⟨fun w => (by cases w), fun w => absurd w z⟩ (s1.trans sm)
    by_cases hne : x.1 = x.2.2.1
    · rw [show (!decide (x.1 = x.2.2.1)) = false by simp [hne]]
      exact iteT (no (Same.refl _) fun ⟨_, _, z, _⟩ => z hne)
    rw [show (!decide (x.1 = x.2.2.1)) = true by simp [hne]]
    refine iteF ?_
    refine ⟨_, rfl, _, rfl, _, _, rfl, SqT.of ht1, part4a _ rfl, fun p1 hp1 => ?_⟩
    rw [show cutV (nV x) none (some 2) = [.int x.1, .int x.2.1] from cut4a ..]
    have s2 := same_new (o := HO.tup [V.int x.1, V.int x.2.1]) hp1
    refine ⟨_, rfl, d, _, rfl, DGet.t (k := kx (n1 x)) (s2 _ _ hd1) upd_same, _, rfl, ?_⟩
    by_cases m1 : n1 x ∈ nm ws
    rotate_left
    · rw [pl.2 _ m1]
      exact iteT (no s2 fun ⟨i, j, _, z, _⟩ => m1 (List.mem_of_getElem? z))
    obtain ⟨i, ei⟩ := mem_get m1
    rw [pl.1 i _ ei]
    refine iteF ?_
    have ht2 := s2 _ _ ht1
    have hd2 := s2 _ _ hd1
    refine ⟨_, rfl, _, rfl, _, _, rfl, SqT.of ht2, part4b _ rfl, fun p2 hp2 => ?_⟩
    rw [show cutV (nV x) (some 2) none = [.int x.2.2.1, .int x.2.2.2] from cut4b ..]
    have s3 := same_new (o := HO.tup [V.int x.2.2.1, V.int x.2.2.2]) hp2
    have s23 := s2.trans s3
    refine ⟨_, rfl, d, _, rfl, DGet.t (k := kx (n2 x)) (s3 _ _ hd2) upd_same, _, rfl, ?_⟩
    by_cases m2 : n2 x ∈ nm ws
    rotate_left
    · rw [pl.2 _ m2]
      exact iteT (no s23 fun ⟨i, j, _, _, z, _⟩ => m2 (List.mem_of_getElem? z))
    obtain ⟨j, ej⟩ := mem_get m2
    rw [pl.1 j _ ej]
    refine iteF ?_
    refine ⟨_, rfl, _, rfl, _, rfl, _, _, rfl, SqT.of (s3 _ _ ht2), part4a _ rfl, fun p3 hp3 => ?_⟩
    rw [show cutV (nV x) none (some 2) = [.int x.1, .int x.2.1] from cut4a ..]
    have s4 := same_new (o := HO.tup [V.int x.1, V.int x.2.1]) hp3
    have s24 := s23.trans s4
    refine ⟨d, _, rfl, pl.1 i _ ei ▸ DGet.t (k := kx (n1 x)) (s24 _ _ hd1) upd_same, ?_⟩
    refine ⟨_, rfl, _, rfl, _, rfl, _, _, rfl, SqT.of (s24 _ _ ht1), part4b _ rfl, fun p4 hp4 => ?_⟩
    rw [show cutV (nV x) (some 2) none = [.int x.2.2.1, .int x.2.2.2] from cut4b ..]
    have s5 := same_new (o := HO.tup [V.int x.2.2.1, V.int x.2.2.2]) hp4
    have s25 := s24.trans s5
    refine ⟨d, _, rfl, pl.1 j _ ej ▸ DGet.t (k := kx (n2 x)) (s25 _ _ hd1) upd_same, _, _, rfl, rfl, ?_⟩
    refine k _ _ ?_ (s1.trans s25)
    rw [decide_eq_true_iff]
    constructor
    · intro z
      exact ⟨i, j, hne, ei, ej, by omega⟩
    · rintro ⟨i', j', _, a, b, c⟩
      have := nm_inj a ei
      have := nm_inj b ej
      omega
def spCheckS (C : Addr) (K : PySem.W.Frag) : Sp := fun vs H Q E => ∃ (d l t : Addr) (kvs : List (List Key × V)) (ws : List Tch) (x : Nt), vs = [.ref d, .ref l] ∧ H d = some (.dT kvs) ∧ PlOk kvs (nm ws) ∧ H l = some (.lst [.ref t]) ∧ H t = some (.tup (nV x)) ∧ (StrP ws x → ∀ H', Same H H' → Q .non H') ∧ (¬ StrP ws x → ∀ H', Same H H' → E (.ref C) none H')
theorem ok_checkS {f : Addr} {fd : FuncData} (F : Fun K "check_strict" "check_strict" s_check_strict f fd) {C_NoNote : Addr} (X_NoNote : Xr K mg C_NoNote "NoNote") (F_is_strict : FnAt P w K mg base 3 "is_strict" ["places", "note"] (spStrict K)) (Bt : Blt mg) : FnOk P w K mg base (CX1 P w) 4 f fd ["places", "some"] (spCheckS C_NoNote K) := by
  refine F.okX sc_check_strict (fun vs H Q E h => ?_) (fun cdv A outer s H vs Q E hr h hR => ?_)
  · obtain ⟨d, l, t, kvs, ws, x, rfl, _⟩ := h
    rfl
  · obtain ⟨d, l, t, kvs, ws, x, rfl, hd, pl, hl, ht, k1, k2⟩ := h
    refine ⟨_, (pss_one (ps_if (pt_not (pt_val (pe_callB (call_all_boolsK (K := K) rfl rfl) (by rfl) Bt.b_all bt_all (pa_cons (pe_comp rfl (N := ["note", "places"]) (own := ["note"]) (caps := [0]) (CompScope.of (by kernel_rfl)) (pi_listK (K := K) rfl (pv 1)) (fun _ _ _ _ => (pg_name (i := 0) (show List.Nodup (["note", "places"] : List Str) by decide +kernel) rfl (Or.inl rfl))) (fun _ _ _ _ => pts_nil) (fun _ _ _ _ => (pe_fn F_is_strict (hr.mono (by decide)) (by rfl) (pa_cons (pv 1) (pa_cons (pv 0) pa_nil))))) pa_nil)))) (pss_one (ps_raise PySem.F.excBase_ValueError X_NoNote.ex X_NoNote.bd (by rfl) rfl rfl hR (pa_cons pe_str pa_nil))) pss_nil)), ?_⟩
    refine ⟨_, rfl, l, rfl, ⟨_, SqL.of hl⟩, fun D hD => ?_⟩
    classical
    refine comp_val (K := K) (fun i => some (.bl (decide (StrP ws x)))) hD (SqL.of hl) (by show 1 ≤ 100000; decide) (fun i v H2 G F hi s2 kG kF => ?_) (fun H2 s2 e2 => ?_)
    · have hm := List.mem_of_getElem? hi
      simp only [List.mem_cons, List.not_mem_nil, or_false] at hm
      subst hm
      refine ⟨_, rfl, _, rfl, d, t, kvs, ws, x, rfl, s2 _ _ hd, pl, s2 _ _ ht, fun bl H3 hbl s3 => kF _ H3 s3 ?_⟩
      have : bl = decide (StrP ws x) := by rw [Bool.eq_iff_iff, hbl, decide_eq_true_iff]
      rw [this]
    refine ⟨D, [decide (StrP ws x)], rfl, SqL.of e2, _, rfl, ?_⟩
    by_cases z : StrP ws x
    · rw [decide_eq_true z]
      refine iteF ?_
      exact k1 z H2 s2
    · rw [decide_eq_false z]
      refine iteT ?_
      exact ⟨(by show 1 ≤ sizeLine; decide), k2 z H2 s2⟩
def spIsWant (K : PySem.W.Frag) : Sp := fun vs H Q _ => ∃ (a d t : Addr) (kvs : List (List Key × V)) (ws : List Tch) (x : Nt), vs = [.ref a, .ref d, .ref t] ∧ WebAt H a ws ∧ H d = some (.dT kvs) ∧ PlOk kvs (nm ws) ∧ H t = some (.tup (nV x)) ∧ ∀ (bl : Bool) (H' : Hp), (bl = true ↔ WantP ws x) → Same H H' → Q (.bl bl) H'
theorem ok_isWant {f : Addr} {fd : FuncData} (F : Fun K "is_want" "is_want" s_is_want f fd) (F_is_strict : FnAt P w K mg base 3 "is_strict" ["places", "note"] (spStrict K)) (F_touches_meet : FnAt P w K mg base 1 "touches_meet" ["one", "other"] (spMt K)) : FnOk P w K mg base CX0 4 f fd ["web", "places", "note"] (spIsWant K) := by
  refine F.ok sc_is_want (fun vs H Q E h => ?_) (fun cdv A outer s H vs Q E hr h => ?_)
  · obtain ⟨a, d, t, kvs, ws, x, rfl, _⟩ := h
    rfl
  · obtain ⟨a, d, t, kvs, ws, x, rfl, W, hd, pl, ht, k⟩ := h
    have hu := hu_of hr
    refine ⟨_, (pss_one (ps_ret (pe_and (pe_fn F_is_strict (hr.mono (by decide)) (by rfl) (pa_cons (pv 1) (pa_cons (pv 2) pa_nil))) (pe_one (pe_fn F_touches_meet (hr.mono (by decide)) (by rfl) (pa_cons (pe_ix (ix_listK (K := K) rfl) (pv 0) (pe_dget hu (pv 1) (pe_slice (sl_tupK (K := K) rfl) (pv 2) po_none (po_some pe_int)) (fun _ _ => rfl)) (fun _ _ => rfl)) (pa_cons (pe_ix (ix_listK (K := K) rfl) (pv 0) (pe_dget hu (pv 1) (pe_slice (sl_tupK (K := K) rfl) (pv 2) (po_some pe_int) po_none) (fun _ _ => rfl)) (fun _ _ => rfl)) pa_nil))))))), ?_⟩
    refine ⟨_, rfl, _, rfl, d, t, kvs, ws, x, rfl, hd, pl, ht, fun bl H1 hbl s1 => ⟨_, rfl, ?_⟩⟩
    cases bl with
    | false =>
      refine iteF ?_
      exact k false H1 ⟨fun z => (by cases z), fun ⟨i, j, _, _, z, _⟩ => absurd (hbl.mpr ⟨i, j, z⟩) (by decide)⟩ s1
    | true =>
      refine iteT ?_
      obtain ⟨i, j, hne, ei, ej, lt⟩ := hbl.mp rfl
      obtain ⟨y, ey, _⟩ := nm_some ei
      obtain ⟨z, ez, _⟩ := nm_some ej
      have ht1 := s1 _ _ ht
      have hd1 := s1 _ _ hd
      refine ⟨_, rfl, _, rfl, _, rfl, _, rfl, _, _, rfl, SqT.of ht1, part4a _ rfl, fun p3 hp3 => ?_⟩
      rw [show cutV (nV x) none (some 2) = [.int x.1, .int x.2.1] from cut4a ..]
      have s4 := same_new (o := HO.tup [V.int x.1, V.int x.2.1]) hp3
      obtain ⟨vs4, q, hw4, eq4, hq4⟩ := web_get ((W.same s1).same s4) ey
      refine ⟨d, _, rfl, pl.1 i _ ei ▸ DGet.t (k := kx (n1 x)) (s4 _ _ hd1) upd_same, _, _, _, _, rfl, rfl, SqL.of hw4, atI_nat eq4, ?_⟩
      refine ⟨_, rfl, _, rfl, _, rfl, _, rfl, _, _, rfl, SqT.of (s4 _ _ ht1), part4b _ rfl, fun p4 hp4 => ?_⟩
      rw [show cutV (nV x) (some 2) none = [.int x.2.2.1, .int x.2.2.2] from cut4b ..]
      have s5 := same_new (o := HO.tup [V.int x.2.2.1, V.int x.2.2.2]) hp4
      have s45 := s4.trans s5
      obtain ⟨vs5, q5, hw5, eq5, hq5⟩ := web_get ((W.same s1).same s45) ez
      refine ⟨d, _, rfl, pl.1 j _ ej ▸ DGet.t (k := kx (n2 x)) (s45 _ _ hd1) upd_same, _, _, _, _, rfl, rfl, SqL.of hw5, atI_nat eq5, ?_⟩
      refine ⟨q, q5, y, z, rfl, s5 _ _ hq4, hq5, ?_⟩
      refine k _ _ ⟨fun w => ⟨i, j, y, z, ⟨hne, ei, ej, lt⟩, ey, ez, w⟩, ?_⟩ (s1.trans s45)
      rintro ⟨i', j', y', z', ⟨_, a1, a2, _⟩, b1, b2, b3⟩
      have e1 := nm_inj a1 ei
      have e2 := nm_inj a2 ej
      subst e1 e2
      rw [ey] at b1
      rw [ez] at b2
      cases b1
      cases b2
      exact b3
def mB (x y : Nt) : Bool := decide (x.1 = y.1 ∧ x.2.2.1 = y.2.2.1) && (decide (x.2.1 ≥ y.2.1) && decide (x.2.2.2 ≤ y.2.2.2))
def spHandsOf (K : PySem.W.Frag) : Sp := fun vs H Q _ => ∃ (t : Addr) (x : Nt), vs = [.ref t] ∧ H t = some (.tup (nV x)) ∧ ∀ p, H p = none → Q (.ref p) (upd H p (.tup [.int x.1, .int x.2.2.1]))
theorem ok_handsOf {f : Addr} {fd : FuncData} (F : Fun K "hands_of" "hands_of" s_hands_of f fd) : FnOk P w K mg base CX0 1 f fd ["note"] (spHandsOf K) := by
  refine F.ok sc_hands_of (fun vs H Q E h => ?_) (fun cdv A outer s H vs Q E hr h => ?_)
  · obtain ⟨t, x, rfl, _⟩ := h
    rfl
  · obtain ⟨t, x, rfl, ht, k⟩ := h
    refine ⟨_, (pss_one (ps_ret (pe_tup (pa_cons (pe_ix (ix_tupK (K := K) rfl) (pv 0) pe_int (fun _ _ => rfl)) (pa_cons (pe_ix (ix_tupK (K := K) rfl) (pv 0) pe_int (fun _ _ => rfl)) pa_nil))))), ?_⟩
    refine ⟨_, rfl, _, _, _, _, rfl, rfl, SqT.of ht, rfl, _, rfl, _, _, _, _, rfl, rfl, SqT.of ht, rfl, (by show 2 ≤ sizeLine; decide), fun p hp => k p hp⟩
def spMeets (K : PySem.W.Frag) : Sp := fun vs H Q _ => ∃ (t u : Addr) (x y : Nt), vs = [.ref t, .ref u] ∧ H t = some (.tup (nV x)) ∧ H u = some (.tup (nV y)) ∧ ∀ H', Same H H' → Q (.bl (mB x y)) H'
theorem ok_meets {f : Addr} {fd : FuncData} (F : Fun K "meets" "meets" s_meets f fd) (F_hands_of : FnAt P w K mg base 1 "hands_of" ["note"] (spHandsOf K)) : FnOk P w K mg base CX0 2 f fd ["note", "want"] (spMeets K) := by
  refine F.ok sc_meets (fun vs H Q E h => ?_) (fun cdv A outer s H vs Q E hr h => ?_)
  · obtain ⟨t, u, x, y, rfl, _⟩ := h
    rfl
  · obtain ⟨t, u, x, y, rfl, ht, hu', k⟩ := h
    have hu64 := hr.units
    refine ⟨_, (pss_one (ps_ret (pe_and (pe_cmpR (op_eqDK (K := K) rfl hu64) (pe_fn F_hands_of (hr.mono (by decide)) (by rfl) (pa_cons (pv 0) pa_nil)) (pe_fn F_hands_of (hr.mono (by decide)) (by rfl) (pa_cons (pv 1) pa_nil)) (nomark _)) (pe_and (pe_cmpR op_ge (pe_ix (ix_tupK (K := K) rfl) (pv 0) pe_int (fun _ _ => rfl)) (pe_ix (ix_tupK (K := K) rfl) (pv 1) pe_int (fun _ _ => rfl)) (nomark _)) (pe_one (pe_cmpR op_le (pe_ix (ix_tupK (K := K) rfl) (pv 0) pe_int (fun _ _ => rfl)) (pe_ix (ix_tupK (K := K) rfl) (pv 1) pe_int (fun _ _ => rfl)) (nomark _))))))), ?_⟩
    refine ⟨_, rfl, t, x, rfl, ht, fun p hp => ?_⟩
    have s1 := same_new (o := HO.tup [V.int x.1, V.int x.2.2.1]) hp
    refine ⟨_, rfl, u, y, rfl, s1 _ _ hu', fun q hq => ?_⟩
    have s2 := same_new (o := HO.tup [V.int y.1, V.int y.2.2.1]) hq
    have s12 := s1.trans s2
    refine ⟨_, _, dat_prs (x := (x.1, x.2.2.1)) (s2 _ _ upd_same), dat_prs (x := (y.1, y.2.2.1)) upd_same, rfl, rfl, _, rfl, ?_⟩
    have e : (if false = true then !PyData.eqv (pD (x.1, x.2.2.1)) (pD (y.1, y.2.2.1)) else PyData.eqv (pD (x.1, x.2.2.1)) (pD (y.1, y.2.2.1))) = decide (x.1 = y.1 ∧ x.2.2.1 = y.2.2.1) := by
      rw [if_neg (by decide), eqv_pD, Bool.eq_iff_iff, decide_eq_true_iff, decide_eq_true_iff, Prod.mk.injEq]
    rw [e]
    have kk := k _ s12
    by_cases w : x.1 = y.1 ∧ x.2.2.1 = y.2.2.1
    rotate_left
    · rw [decide_eq_false w]
      refine iteF ?_
      have : mB x y = false := by simp only [mB, decide_eq_false w, Bool.false_and]
      rw [this] at kk
      exact kk
    rw [decide_eq_true w]
    refine iteT ?_
    refine ⟨_, rfl, _, _, _, _, rfl, rfl, SqT.of (s12 _ _ ht), rfl, _, rfl, _, _, _, _, rfl, rfl, SqT.of (s12 _ _ hu'), rfl, _, _, rfl, rfl, _, rfl, ?_⟩
    by_cases w2 : x.2.1 ≥ y.2.1
    rotate_left
    · rw [decide_eq_false w2]
      refine iteF ?_
      have : mB x y = false := by simp only [mB, decide_eq_false w2, Bool.false_and, Bool.and_false]
      rw [this] at kk
      exact kk
    rw [decide_eq_true w2]
    refine iteT ?_
    refine ⟨_, rfl, _, _, _, _, rfl, rfl, SqT.of (s12 _ _ ht), rfl, _, rfl, _, _, _, _, rfl, rfl, SqT.of (s12 _ _ hu'), rfl, _, _, rfl, rfl, ?_⟩
    have : mB x y = decide (x.2.2.2 ≤ y.2.2.2) := by simp only [mB, decide_eq_true w, decide_eq_true w2, Bool.true_and]
    rw [this] at kk
    exact kk
def spMeetsWant (C : Addr) (K : PySem.W.Frag) : Sp := fun vs H Q E => ∃ (a t u : Addr) (ws : List Tch) (x y : Nt), vs = [.ref a, .ref t, .ref u] ∧ WebAt H a ws ∧ ws.length ≤ 300 ∧ H t = some (.tup (nV x)) ∧ H u = some (.tup (nV y)) ∧ (StrP ws x → WantP ws y → ∀ H', Same H H' → Q (.bl (mB x y)) H') ∧ (¬ (StrP ws x ∧ WantP ws y) → ∀ H', Same H H' → E (.ref C) none H')
theorem ok_meetsWant {f : Addr} {fd : FuncData} (F : Fun K "meets_want" "meets_want" s_meets_want f fd) {C_NoNote : Addr} (X_NoNote : Xr K mg C_NoNote "NoNote") (F_places_of : FnAt P w K mg base 2 "places_of" ["web"] (spPlaces K)) (F_check_strict : FnAtX P w K mg base 4 "check_strict" ["places", "some"] (spCheckS C_NoNote K)) (F_is_want : FnAt P w K mg base 4 "is_want" ["web", "places", "note"] (spIsWant K)) (F_meets : FnAt P w K mg base 2 "meets" ["note", "want"] (spMeets K)) : FnOk P w K mg base (CX1 P w) 5 f fd ["web", "note", "want"] (spMeetsWant C_NoNote K) := by
  refine F.okX sc_meets_want (fun vs H Q E h => ?_) (fun cdv A outer s H vs Q E hr h hR => ?_)
  · obtain ⟨a, t, u, ws, x, y, rfl, _⟩ := h
    rfl
  · obtain ⟨a, t, u, ws, x, y, rfl, W, wl, ht, hu', k1, k2⟩ := h
    refine ⟨_, (pss_cons (ps_set (i := 3) sc_meets_want.nd rfl (Or.inl rfl) (pe_fn F_places_of (hr.mono (by decide)) (by rfl) (pa_cons (pv 0) pa_nil)))
      (pss_cons (ps_expr (pe_fnX F_check_strict rfl hR (hr.mono (by decide)) (by rfl) (pa_cons (pv 3) (pa_cons (pe_lst (pa_cons (pv 1) pa_nil)) pa_nil))))
      (pss_cons (ps_if (pt_not (pt_val (pe_fn F_is_want (hr.mono (by decide)) (by rfl) (pa_cons (pv 0) (pa_cons (pv 3) (pa_cons (pv 2) pa_nil)))))) (pss_one (ps_raise PySem.F.excBase_ValueError X_NoNote.ex X_NoNote.bd (by rfl) rfl rfl hR (pa_cons pe_str pa_nil))) pss_nil)
      (pss_one (ps_ret (pe_fn F_meets (hr.mono (by decide)) (by rfl) (pa_cons (pv 1) (pa_cons (pv 2) pa_nil)))))))), ?_⟩
    refine ⟨_, rfl, a, ws, rfl, W, wl, fun d kvs H1 hd0 hd pl s1 => ?_⟩
    refine ⟨_, rfl, _, rfl, (by show 1 ≤ sizeLine; decide), fun l hl => ?_⟩
    have s2 := same_new (o := HO.lst [V.ref t]) hl
    have s12 := s1.trans s2
    refine ⟨d, l, t, kvs, ws, x, rfl, s2 _ _ hd, pl, upd_same, s12 _ _ ht, fun st H3 s3 => ?_, fun ns H3 s3 => k2 (fun z => ns z.1) H3 (s12.trans s3)⟩
    have s13 := s12.trans s3
    refine ⟨_, rfl, _, rfl, _, rfl, a, d, u, kvs, ws, y, rfl, W.same s13, (s2.trans s3) _ _ hd, pl, s13 _ _ hu', fun bl H4 hbl s4 => ⟨_, rfl, ?_⟩⟩
    have s14 := s13.trans s4
    cases bl with
    | false =>
      refine iteT ?_
      exact ⟨(by show 1 ≤ sizeLine; decide), k2 (fun z => absurd (hbl.mpr z.2) (by decide)) H4 s14⟩
    | true =>
      refine iteF ?_
      exact ⟨_, rfl, _, rfl, t, u, x, y, rfl, s14 _ _ ht, s14 _ _ hu', fun H5 s5 => k1 st (hbl.mp rfl) H5 (s14.trans s5)⟩

/-! ### copies, data of a record -/
theorem eqv_int (x y : Int) : PyData.eqv (.int x) (.int y) = decide (x = y) := by
  simp only [PyData.eqv]
  rw [Bool.eq_iff_iff]
  simp
theorem dat_ints {H : Hp} {a : Addr} {ns : List Int} (h : H a = some (.lst (ns.map V.int))) : Dat H (.ref a) (.list (ns.map PyData.int)) := dat_list h (Dats.ints ns)
theorem shaped_ints (ns : List Int) : SeqAt.shaped (.list (ns.map PyData.int)) = true := shaped_list PyData.int 0 (by decide) (fun _ _ => rfl) (fun _ _ => by show 0 ≤ 0; decide)
theorem orGoal {c A B : Prop} [Decidable c] (hA : A) (hB : ¬ c → A → B) : if c then A else B := by
  by_cases h : c
  · rw [if_pos h]; exact hA
  · rw [if_neg h]; exact hB h hA
def putN (x : Nt) (part v : Int) : Nt := if part = 0 then (v, x.2.1, x.2.2.1, x.2.2.2) else if part = 1 then (x.1, v, x.2.2.1, x.2.2.2) else if part = 2 then (x.1, x.2.1, v, x.2.2.2) else (x.1, x.2.1, x.2.2.1, v)
theorem put_at (x : Nt) {part v : Int} (p0 : 0 ≤ part) (p1 : part < 4) : (cutV (nV x) none (some part) ++ [V.int v]) ++ cutV (nV x) (some (part + 1)) none = nV (putN x part v) := by
  have : part = 0 ∨ part = 1 ∨ part = 2 ∨ part = 3 := by omega
  rcases this with rfl | rfl | rfl | rfl <;> rfl
theorem put_a (x : Nt) {part : Int} (p0 : 0 ≤ part) (p1 : part < 4) : ¬ (HT.sIx (nV x).length 0 none = 0 ∧ HT.sIx (nV x).length (nV x).length (some part) = (nV x).length) := by
  have : part = 0 ∨ part = 1 ∨ part = 2 ∨ part = 3 := by omega
  show ¬ (HT.sIx 4 0 none = 0 ∧ HT.sIx 4 4 (some part) = 4)
  rcases this with rfl | rfl | rfl | rfl <;> decide
theorem put_b (x : Nt) {part : Int} (p0 : 0 ≤ part) (p1 : part < 4) : ¬ (HT.sIx (nV x).length 0 (some (part + 1)) = 0 ∧ HT.sIx (nV x).length (nV x).length none = (nV x).length) := by
  have : part = 0 ∨ part = 1 ∨ part = 2 ∨ part = 3 := by omega
  show ¬ (HT.sIx 4 0 (some (part + 1)) = 0 ∧ HT.sIx 4 4 none = 4)
  rcases this with rfl | rfl | rfl | rfl <;> decide

/-! ### the law's own -/
section
variable {D r : Addr} {te : TE} {Q : VK} {rest : St} {H1 : Hp} {n : Nat}
theorem SpringOk.ne {H : Hp} {r p : Addr} (h : SpringOk H r) (hp : H p = none) : p ≠ r := by
  obtain ⟨f, t, c, e, _⟩ := h
  exact (ne_of_none e hp).symm
theorem SpringOk.tups {H H' : Hp} {r : Addr} (h : SpringOk H r) (k : Kp r H H') : ∀ a xs, H a = some (HO.tup xs) → H' a = some (HO.tup xs) := by
  obtain ⟨f, t, c, e, _⟩ := h
  exact k.tups e
theorem comp_sprR (hD : H1 D = none) (hS : SpringOk H1 r) (hx : n ≤ 100000)
    (hs : ∀ i H (F : VK), i < n → Kp r H1 H → SpringOk H r → (∀ z H', Kp r H H' → SpringOk H' r → F (.int z) H') → te (some (.int (0 + i)) :: rest) H F)
    (hd : ∀ H (zs : List Int), zs.length = n → H D = some (.lst (zs.map V.int)) → Kp r H1 H → SpringOk H r → Q (.ref D) H) : CompW (Itr 0 n) (gName 0) tAll te Q D (none :: rest) H1 := by
  have nr := hS.ne hD
  have mv : ∀ {H : Hp} {o : HO}, Kp r H1 H → Kp r H1 (upd H D o) := fun k c u e m => by rw [upd_ne (ne_of_none e hD)]; exact k c u e m
  refine comp_range (lo := 0) (n := n) (fun i σ H => (∃ v, σ = v :: rest) ∧ ∃ zs : List Int, zs.length = i ∧ H D = some (.lst (zs.map V.int)) ∧ Kp r H1 H ∧ SpringOk H r) ⟨⟨none, rfl⟩, [], rfl, upd_same, .of_same (same_new hD), hS.keep (same_new hD)⟩ ?_ (fun σ H ⟨_, zs, hl, e, k, B⟩ => hd H zs hl e k B)
  rintro i σ H hi ⟨⟨v, rfl⟩, zs, hl, e, k1, B1⟩
  refine hs i H _ hi k1 B1 fun z H' k2 B2 => ?_
  refine ⟨_, k2 _ _ e nr, ?_, ⟨_, rfl⟩, zs ++ [z], by simp [hl], ?_, mv (k1.trans k2), B2.keep' Kp.set nr.symm⟩
  · rw [List.length_map, sizeLine_eq]; omega
  · rw [upd_same]; simp
end
theorem prs_refs {H : Hp} : ∀ {vs : List V} {ps : List Prs}, Dats H vs (ps.map pD) → ∃ as : List Addr, vs = as.map V.ref
  | [], [], _ => ⟨[], rfl⟩
  | v :: vs, x :: ps, h => by
    simp only [List.map_cons, Dats] at h
    obtain ⟨t, rfl, _⟩ := dat_prs_inv h.1
    obtain ⟨as, rfl⟩ := prs_refs h.2
    exact ⟨t :: as, rfl⟩
  | [], _ :: _, h => by simp only [List.map_cons, Dats] at h
  | _ :: _, [], h => by simp only [List.map_nil, Dats] at h
theorem any_pD (ns : List Prs) (x : Prs) : ((ns.map pD).any fun e => PyData.eqv e (pD x)) = decide (x ∈ ns) := by
  rw [Bool.eq_iff_iff, List.any_eq_true, decide_eq_true_iff]
  constructor
  · rintro ⟨e, he, q⟩
    obtain ⟨y, hy, rfl⟩ := List.mem_map.mp he
    rw [eqv_pD, decide_eq_true_iff] at q
    exact q ▸ hy
  · intro h
    exact ⟨pD x, List.mem_map.mpr ⟨x, h, rfl⟩, by rw [eqv_pD, decide_eq_true_iff]⟩
theorem shaped_pD (x : Prs) : SeqAt.shaped (pD x) = true := rfl
theorem shaped_pDs {ps : List Prs} : ∀ e ∈ ps.map pD, SeqAt.shaped e = true := fun e he => by
  obtain ⟨y, _, rfl⟩ := List.mem_map.mp he
  exact shaped_pD y
def spEnds (K : PySem.W.Frag) : Sp := fun vs H Q _ => ∃ (c t : Addr) (ws : List Tch) (x : Nt), vs = [.ref c, .ref t] ∧ PrsAt H c (nm ws) ∧ H t = some (.tup (nV x)) ∧ (¬ StrP ws x → ∀ H', Same H H' → Q .non H') ∧ ∀ i j, StrAt ws x i j → ∀ (u : Addr) (H' : Hp), H' u = some (.tup [.int i, .int j]) → Same H H' → Q (.ref u) H'
theorem ok_ends {f : Addr} {fd : FuncData} (F : Fun K "_law_ends" "_law_ends" s_Lends f fd) : FnOk P w K mg base CX0 1 f fd ["calls", "note"] (spEnds K) := by
  refine F.ok sc_Lends (fun vs H Q E h => ?_) (fun cdv A outer s H vs Q E hr h => ?_)
  · obtain ⟨c, t, ws, x, rfl, _⟩ := h
    rfl
  · obtain ⟨c, t, ws, x, rfl, C, ht, k1, k2⟩ := h
    refine ⟨_, (pss_cons (ps_set (i := 2) sc_Lends.nd rfl (Or.inl rfl) (pe_tup (pa_cons (pe_ix (ix_tupK (K := K) rfl) (pv 1) pe_int (fun _ _ => rfl)) (pa_cons (pe_ix (ix_tupK (K := K) rfl) (pv 1) pe_int (fun _ _ => rfl)) pa_nil))))
      (pss_cons (ps_set (i := 3) sc_Lends.nd rfl (Or.inl rfl) (pe_tup (pa_cons (pe_ix (ix_tupK (K := K) rfl) (pv 1) pe_int (fun _ _ => rfl)) (pa_cons (pe_ix (ix_tupK (K := K) rfl) (pv 1) pe_int (fun _ _ => rfl)) pa_nil))))
      (pss_cons (ps_if (PW.pt (pw_or (pt_cmpR op_eq (pe_ix (ix_tupK (K := K) rfl) (pv 1) pe_int (fun _ _ => rfl)) (pe_ix (ix_tupK (K := K) rfl) (pv 1) pe_int (fun _ _ => rfl)) (nomark _)) (pw_or (pt_cmpR (op_notInDK (K := K) rfl hr.units1) (pv 2) (pv 0) (by with_unfolding_all rfl)) (pw_or1 (pt_cmpR (op_notInDK (K := K) rfl hr.units1) (pv 3) (pv 0) (by with_unfolding_all rfl)))))) (pss_one (ps_ret pe_non)) pss_nil)
      (pss_cons (ps_if (pt_cmpR op_ge (pe_bmK (K := K) rfl PySem.F.plainAttrs_list PySem.F.slot_list_index PySem.F.type_list_index (mt_indexDK (K := K) rfl hr.units1) (pv 0) (pa_cons (pv 2) pa_nil)) (pe_bmK (K := K) rfl PySem.F.plainAttrs_list PySem.F.slot_list_index PySem.F.type_list_index (mt_indexDK (K := K) rfl hr.units1) (pv 0) (pa_cons (pv 3) pa_nil)) (nomark _)) (pss_one (ps_ret pe_non)) pss_nil)
      (pss_one (ps_ret (pe_tup (pa_cons (pe_bmK (K := K) rfl PySem.F.plainAttrs_list PySem.F.slot_list_index PySem.F.type_list_index (mt_indexDK (K := K) rfl hr.units1) (pv 0) (pa_cons (pv 2) pa_nil)) (pa_cons (pe_bmK (K := K) rfl PySem.F.plainAttrs_list PySem.F.slot_list_index PySem.F.type_list_index (mt_indexDK (K := K) rfl hr.units1) (pv 0) (pa_cons (pv 3) pa_nil)) pa_nil))))))))), ?_⟩
    obtain ⟨vs, hc, dv⟩ := id C
    obtain ⟨as, rfl⟩ := prs_refs dv
    refine ⟨_, rfl, _, _, _, _, rfl, rfl, SqT.of ht, rfl, _, rfl, _, _, _, _, rfl, rfl, SqT.of ht, rfl, (by show 2 ≤ sizeLine; decide), fun o1 ho1 => ?_⟩
    have s1 := same_new (o := HO.tup [V.int x.1, V.int x.2.1]) ho1
    have ht1 := s1 _ _ ht
    refine ⟨_, rfl, _, _, _, _, rfl, rfl, SqT.of ht1, rfl, _, rfl, _, _, _, _, rfl, rfl, SqT.of ht1, rfl, (by show 2 ≤ sizeLine; decide), fun o2 ho2 => ?_⟩
    have s2 := same_new (o := HO.tup [V.int x.2.2.1, V.int x.2.2.2]) ho2
    have s12 := s1.trans s2
    have ht2 := s2 _ _ ht1
    have hc2 := s12 _ _ hc
    have dv2 := Dats.keep s12.tups _ (imms_map _ imm_pD _) dv
    have h1 : (upd (upd H o1 (HO.tup [V.int x.1, V.int x.2.1])) o2 (HO.tup [V.int x.2.2.1, V.int x.2.2.2])) o1 = some (.tup [.int x.1, .int x.2.1]) := s2 _ _ upd_same
    have h2 : (upd (upd H o1 (HO.tup [V.int x.1, V.int x.2.1])) o2 (HO.tup [V.int x.2.2.1, V.int x.2.2.2])) o2 = some (.tup [.int x.2.2.1, .int x.2.2.2]) := upd_same
    refine ⟨_, rfl, _, _, _, _, rfl, rfl, SqT.of ht2, rfl, _, rfl, _, _, _, _, rfl, rfl, SqT.of ht2, rfl, rfl, _, rfl, ?_⟩
    by_cases hne : x.1 = x.2.2.1
    · refine ite2 (fun _ => ?_) (fun z => absurd (decide_eq_true (by rw [hne])) z)
      exact k1 (fun ⟨_, _, z, _⟩ => z hne) _ s12
    refine ite2 (fun z => absurd (of_decide_eq_true z) (fun w => hne (by injection w))) (fun _ => ?_)
    refine ⟨_, rfl, _, rfl, c, _, pD (n1 x), (nm ws).map pD, rfl, SqL.of hc2, dv2, dat_prs (x := n1 x) h1, shaped_pD _, shaped_pDs, _, rfl, ?_⟩
    rw [if_pos rfl, any_pD]
    by_cases m1 : n1 x ∈ nm ws
    rotate_left
    · rw [decide_eq_false m1]
      refine iteT ?_
      exact k1 (fun ⟨_, _, _, z, _⟩ => m1 (List.mem_of_getElem? z)) _ s12
    rw [decide_eq_true m1]
    refine iteF ?_
    refine ⟨_, rfl, _, rfl, c, _, pD (n2 x), (nm ws).map pD, rfl, SqL.of hc2, dv2, dat_prs (x := n2 x) h2, shaped_pD _, shaped_pDs, _, rfl, ?_⟩
    rw [if_pos rfl, any_pD]
    by_cases m2 : n2 x ∈ nm ws
    rotate_left
    · rw [decide_eq_false m2]
      refine iteT ?_
      exact k1 (fun ⟨_, _, _, _, z, _⟩ => m2 (List.mem_of_getElem? z)) _ s12
    rw [decide_eq_true m2]
    refine iteF ?_
    obtain ⟨i, ei⟩ := mem_get m1
    obtain ⟨j, ej⟩ := mem_get m2
    have hit : ∀ {y : Prs} {m : Nat}, (nm ws)[m]? = some y → ((nm ws).map pD)[m]? = some (pD y) := fun e => by rw [List.getElem?_map, e]; rfl
    have first : ∀ {y : Prs} {m : Nat}, (nm ws)[m]? = some y → ∀ m' e', m' < m → ((nm ws).map pD)[m']? = some e' → PyData.eqv e' (pD y) = false := fun {y m} e m' e' lt he => by
      rw [List.getElem?_map] at he
      cases ez : (nm ws)[m']? with
      | none => rw [ez] at he; cases he
      | some z =>
        rw [ez] at he
        cases he
        rw [eqv_pD]
        refine decide_eq_false fun w => ?_
        subst w
        exact nm_lt ez e lt
    have same : ∀ y : Prs, PyData.eqv (pD y) (pD y) = true := fun y => by rw [eqv_pD]; simp
    refine ⟨_, rfl, .inl ⟨rfl, _, SqL.of hc2⟩, _, rfl, c, as, _, pD (n1 x), _, i, pD (n1 x), rfl, rfl, SqL.of hc2, dv2, dat_prs (x := n1 x) h1, shaped_pD _, shaped_pDs, hit ei, same _, first ei, ?_⟩
    refine ⟨_, rfl, .inl ⟨rfl, _, SqL.of hc2⟩, _, rfl, c, as, _, pD (n2 x), _, j, pD (n2 x), rfl, rfl, SqL.of hc2, dv2, dat_prs (x := n2 x) h2, shaped_pD _, shaped_pDs, hit ej, same _, first ej, _, _, rfl, rfl, _, rfl, ?_⟩
    refine ite2 (fun w => ?_) (fun w => ?_)
    · have w : (i : Int) ≥ j := of_decide_eq_true w
      refine k1 (fun ⟨i', j', _, a, b, lt⟩ => ?_) _ s12
      have := nm_inj a ei
      have := nm_inj b ej
      omega
    · have w : ¬ (i : Int) ≥ j := fun z => w (decide_eq_true z)
      refine ⟨_, rfl, .inl ⟨rfl, _, SqL.of hc2⟩, _, rfl, c, as, _, pD (n1 x), _, i, pD (n1 x), rfl, rfl, SqL.of hc2, dv2, dat_prs (x := n1 x) h1, shaped_pD _, shaped_pDs, hit ei, same _, first ei, ?_⟩
      refine ⟨_, rfl, .inl ⟨rfl, _, SqL.of hc2⟩, _, rfl, c, as, _, pD (n2 x), _, j, pD (n2 x), rfl, rfl, SqL.of hc2, dv2, dat_prs (x := n2 x) h2, shaped_pD _, shaped_pDs, hit ej, same _, first ej, ?_⟩
      exact ⟨(by show 2 ≤ sizeLine; decide), fun u hu => k2 i j ⟨hne, ei, ej, by omega⟩ u _ upd_same (s12.trans (same_new hu))⟩
def spLwant (K : PySem.W.Frag) : Sp := fun vs H Q _ => ∃ (a c t : Addr) (ws : List Tch) (x : Nt), vs = [.ref a, .ref c, .ref t] ∧ WebAt H a ws ∧ PrsAt H c (nm ws) ∧ H t = some (.tup (nV x)) ∧ ∀ (bl : Bool) (H' : Hp), (bl = true ↔ WantP ws x) → Same H H' → Q (.bl bl) H'
theorem ok_Lwant {f : Addr} {fd : FuncData} (F : Fun K "_law_is_want" "_law_is_want" s_Lis_want f fd) (F_Lends : FnAt P w K mg base 1 "_law_ends" ["calls", "note"] (spEnds K)) (F_Lmeets : FnAt P w K mg base 1 "_law_meets" ["one", "other"] (spMt K)) : FnOk P w K mg base CX0 2 f fd ["web", "calls", "note"] (spLwant K) := by
  refine F.ok sc_Lis_want (fun vs H Q E h => ?_) (fun cdv A outer s H vs Q E hr h => ?_)
  · obtain ⟨a, c, t, ws, x, rfl, _⟩ := h
    rfl
  · obtain ⟨a, c, t, ws, x, rfl, W, C, ht, k⟩ := h
    refine ⟨_, (pss_cons (ps_set (i := 3) sc_Lis_want.nd rfl (Or.inl rfl) (pe_fn F_Lends (hr.mono (by decide)) (by rfl) (pa_cons (pv 1) (pa_cons (pv 2) pa_nil))))
      (pss_one (ps_ret (pe_and (pe_cmpR op_notN (pv 3) pe_non (nomark _)) (pe_one (pe_fn F_Lmeets (hr.mono (by decide)) (by rfl) (pa_cons (pe_ix (ix_listK (K := K) rfl) (pv 0) (pe_ix (ix_tupK (K := K) rfl) (pv 3) pe_int (fun _ _ => rfl)) (fun _ _ => rfl)) (pa_cons (pe_ix (ix_listK (K := K) rfl) (pv 0) (pe_ix (ix_tupK (K := K) rfl) (pv 3) pe_int (fun _ _ => rfl)) (fun _ _ => rfl)) pa_nil)))))))), ?_⟩
    refine seq_cps (fun σ H1 => ∃ en : V, σ = [some (.ref a), some (.ref c), some (.ref t), some en] ∧ Same H H1 ∧ ((¬ StrP ws x ∧ en = .non) ∨ ∃ i j u, StrAt ws x i j ∧ en = .ref u ∧ H1 u = some (.tup [.int i, .int j]))) (fun D' hD' _ => ?_) ?_
    · refine ⟨_, rfl, _, rfl, c, t, ws, x, rfl, C, ht, fun n H1 s1 => hD' _ _ ⟨_, rfl, s1, .inl ⟨n, rfl⟩⟩, ?_⟩
      by_cases st : StrP ws x
      · obtain ⟨i0, j0, st⟩ := st
        exact fun i j st u H1 e s1 => hD' _ _ ⟨_, rfl, s1, .inr ⟨i, j, u, st, rfl, e⟩⟩
      · exact fun i j st' => absurd ⟨i, j, st'⟩ st
    rintro σ H1 ⟨en, rfl, s1, h⟩
    rcases h with ⟨ns, rfl⟩ | ⟨i, j, u, ⟨hne, ei, ej, lt⟩, rfl, eu⟩
    · refine ⟨_, rfl, rfl, _, rfl, ?_⟩
      refine ite2 (fun z => absurd z (by simp)) (fun _ => ?_)
      exact k _ _ ⟨fun z => absurd z (by simp), fun ⟨i, j, _, _, z, _⟩ => absurd ⟨i, j, z⟩ ns⟩ s1
    · obtain ⟨y, ey, _⟩ := nm_some ei
      obtain ⟨z, ez, _⟩ := nm_some ej
      refine ⟨_, rfl, rfl, _, rfl, ?_⟩
      refine ite2 (fun _ => ?_) (fun w => absurd (by simp) w)
      obtain ⟨vs4, q, hw4, eq4, hq4⟩ := web_get (W.same s1) ey
      obtain ⟨vs5, q5, hw5, eq5, hq5⟩ := web_get (W.same s1) ez
      refine ⟨_, rfl, _, rfl, _, _, _, _, rfl, rfl, SqT.of eu, rfl, _, _, _, _, rfl, rfl, SqL.of hw4, atI_nat eq4, _, rfl, _, rfl, _, _, _, _, rfl, rfl, SqT.of eu, rfl, _, _, _, _, rfl, rfl, SqL.of hw5, atI_nat eq5, q, q5, y, z, rfl, hq4, hq5, ?_⟩
      refine k _ _ ⟨fun w => ⟨i, j, y, z, ⟨hne, ei, ej, lt⟩, ey, ez, w⟩, ?_⟩ s1
      rintro ⟨i', j', y', z', ⟨_, a1, a2, _⟩, b1, b2, b3⟩
      have e1 := nm_inj a1 ei
      have e2 := nm_inj a2 ej
      subst e1 e2
      rw [ey] at b1
      rw [ez] at b2
      cases b1
      cases b2
      exact b3
/-- any note told -/
def AnyN (Q : VK) (H : Hp) (r : Addr) : Prop := ∀ (t : Addr) (x : Nt) (H' : Hp), H' t = some (.tup (nV x)) → SpringOk H' r → Kp r H H' → Q (.ref t) H'
def pkB (ws : List Tch) (only : Int) (j i : Nat) : Bool := match ws[i]?, ws[j]? with
  | some x, some y => !decide (x.1 = y.1) && (decide (only = 0) || mt x y)
  | _, _ => false
def pk (ws : List Tch) (only : Int) (j : Nat) : List Int := (List.range j).filterMap fun (i : Nat) => if pkB ws only j i then some (i : Int) else none
theorem pk_map (ws : List Tch) (only : Int) (j : Nat) : (List.range j).filterMap (fun (i : Nat) => if pkB ws only j i then some (V.int (0 + (i : Int))) else none) = (pk ws only j).map V.int := by
  unfold pk
  rw [List.map_filterMap]
  refine fm_congr _ trivial fun i _ => ?_
  split <;> simp
theorem pk_mem {ws : List Tch} {only : Int} {j : Nat} {h : Int} (m : h ∈ pk ws only j) : 0 ≤ h ∧ h < j := by
  unfold pk at m
  rw [List.mem_filterMap] at m
  obtain ⟨i, hi, e⟩ := m
  have hi' : i < j := by simpa using hi
  split at e
  · cases e; exact ⟨by omega, by omega⟩
  · cases e
theorem get_mem {l : List Int} {z : Int} (z0 : 0 ≤ z) (z1 : z < l.length) : ∃ h, atI (l.map V.int) z = some (.int h) ∧ h ∈ l := by
  obtain ⟨m, rfl⟩ := Int.eq_ofNat_of_zero_le z0
  have hm : m < l.length := by omega
  exact ⟨l[m], atI_nat (by rw [List.getElem?_map, List.getElem?_eq_getElem hm]; rfl), List.getElem_mem hm⟩
/-- calls[i] + calls[j] -/
theorem prs_nat {H : Hp} {c : Addr} {ps : List Prs} {h : Int} (C : PrsAt H c ps) (h0 : 0 ≤ h) (h1 : h < ps.length) : ∃ vs t x, H c = some (.lst vs) ∧ atI vs h = some (.ref t) ∧ H t = some (.tup [.int x.1, .int x.2]) ∧ ps[h.toNat]? = some (x : Prs) := by
  obtain ⟨m, rfl⟩ := Int.eq_ofNat_of_zero_le h0
  have hm : m < ps.length := by omega
  obtain ⟨vs, t, a, b, d⟩ := prs_at C (i := m) (x := ps[m]) (by simp [hm])
  exact ⟨vs, t, ps[m], a, atI_nat b, d, by simp [hm]⟩
def spPick (K : PySem.W.Frag) : Sp := fun vs H Q _ => ∃ (r a c : Addr) (ws : List Tch) (only : Int), vs = [.ref r, .ref a, .ref c, .int only] ∧ SpringOk H r ∧ WebAt H a ws ∧ a ≠ r ∧ PrsAt H c (nm ws) ∧ c ≠ r ∧ ws.length ≤ 300 ∧ AnyN Q H r
/-- the names of ok_pick as they stand -/
def pSt (a0 : Addr) (a1 : Addr) (a2 : Addr) (a3 : Int) (a4 : Int) (a5 : Int) (x6 : Option V) (x7 : Option V) (x8 : Option V) : St := [some (.ref a0), some (.ref a1), some (.ref a2), some (.int a3), some (.int a4), some (.int a5), x6, x7, x8]
theorem ok_pick {f : Addr} {fd : FuncData} (F : Fun K "_law_pick" "_law_pick" s_Lpick f fd) (F_Ldraw : FnAt P w K mg base 1 "_law_draw" ["spring", "many"] (spDraw K)) (F_Lmeets : FnAt P w K mg base 1 "_law_meets" ["one", "other"] (spMt K)) (Bt : Blt mg) : FnOk P w K mg base CX0 2 f fd ["spring", "web", "calls", "only"] (spPick K) := by
  refine F.ok sc_Lpick (fun vs H Q E h => ?_) (fun cdv A outer s H vs Q E hr h => ?_)
  · obtain ⟨r, a, c, ws, only, rfl, _⟩ := h
    rfl
  · obtain ⟨r, a, c, ws, only, rfl, S0, W, nar, C, ncr, wl, k⟩ := h
    have hu64 := hr.units
    refine ⟨_, (pss_cons (ps_set (i := 4) sc_Lpick.nd rfl (Or.inl rfl) (pe_fn F_Ldraw (hr.mono (by decide)) (by rfl) (pa_cons (pv 0) (pa_cons (pe_callB (call_max2 rfl) (by rfl) Bt.b_max bt_max (pa_cons pe_int (pa_cons (pe_callB (call_len_seqK (K := K) rfl) (by rfl) Bt.b_len bt_len (pa_cons (pv 1) pa_nil)) pa_nil))) pa_nil))))
      (pss_cons (ps_set (i := 5) sc_Lpick.nd rfl (Or.inl rfl) (pe_fn F_Ldraw (hr.mono (by decide)) (by rfl) (pa_cons (pv 0) (pa_cons (pe_op op_pow pe_int pe_int) pa_nil))))
      (pss_cons (ps_for PassesOwn.never rfl (pi_range1 (by rfl) Bt.b_range (pa_cons (pe_callB (call_len_seqK (K := K) rfl) (by rfl) Bt.b_len bt_len (pa_cons (pv 1) pa_nil)) pa_nil)) (pg_name (i := 6) sc_Lpick.nd rfl (Or.inl rfl))
      (pss_cons (ps_set (i := 7) sc_Lpick.nd rfl (Or.inr rfl) (pe_op op_mod (pe_op op_add (pv 4) (pv 6)) (pe_callB (call_len_seqK (K := K) rfl) (by rfl) Bt.b_len bt_len (pa_cons (pv 1) pa_nil))))
      (pss_cons (ps_setC (i := 8) rfl sc_Lpick.nd rfl (Or.inl rfl) (N := ["i", "only", "web", "j"]) (own := ["i"]) (caps := [3, 1, 7]) (CompScope.of (by kernel_rfl)) (pi_range1 (by rfl) Bt.b_range (pa_cons (pv 7) pa_nil)) (fun _ _ _ _ => (pg_name (i := 0) (show List.Nodup (["i", "only", "web", "j"] : List Str) by decide +kernel) rfl (Or.inl rfl))) (fun _ _ _ _ => (pts_one (PW.pt (pw_and (pt_cmpR op_ne (pe_ix (ix_tupK (K := K) rfl) (pe_ix (ix_listK (K := K) rfl) (pv 2) (pv 0) (fun _ _ => rfl)) pe_int (fun _ _ => rfl)) (pe_ix (ix_tupK (K := K) rfl) (pe_ix (ix_listK (K := K) rfl) (pv 2) (pv 3) (fun _ _ => rfl)) pe_int (fun _ _ => rfl)) (nomark _)) (pw_and1 (PW.pt (pw_or (pt_cmpR op_eq (pv 1) pe_int (nomark _)) (pw_or1 (pt_val (pe_fn F_Lmeets (hr.mono (by decide)) (by rfl) (pa_cons (pe_ix (ix_listK (K := K) rfl) (pv 2) (pv 0) (fun _ _ => rfl)) (pa_cons (pe_ix (ix_listK (K := K) rfl) (pv 2) (pv 3) (fun _ _ => rfl)) pa_nil)))))))))))) (fun _ _ _ _ => (pv 0)))
      (pss_one (ps_if (pt_cmpR (op_neDK (K := K) rfl hu64) (pv 8) (pe_lst pa_nil) (nomark _)) (pss_one (ps_ret (pe_op (op_catTK (K := K) rfl) (pe_ix (ix_listK (K := K) rfl) (pv 2) (pe_ix (ix_listK (K := K) rfl) (pv 8) (pe_op op_mod (pv 5) (pe_callB (call_len_seqK (K := K) rfl) (by rfl) Bt.b_len bt_len (pa_cons (pv 8) pa_nil))) (fun _ _ => rfl)) (fun _ _ => rfl)) (pe_ix (ix_listK (K := K) rfl) (pv 2) (pv 7) (fun _ _ => rfl))))) pss_nil)))))
      (pss_one (ps_ret (pe_tup (pa_cons pe_int (pa_cons pe_int (pa_cons pe_int (pa_cons pe_int pa_nil)))))))))), ?_⟩
    obtain ⟨vs0, ha0, dv0⟩ := id W
    have vl0 : vs0.length = ws.length := by rw [dv0.length, List.length_map]
    refine seq_one (fun R g => ?_)
    refine ⟨_, rfl, _, rfl, a, _, rfl, .inl (SqL.of ha0), _, _, rfl, r, _, rfl, S0, ?_, ?_, fun at_ H1 a0 a1 S1 k1 => ?_⟩
    · split <;> omega
    · split <;> omega
    refine g _ _ ?_
    refine seq_one (fun R g => ?_)
    refine ⟨_, rfl, _, _, rfl, rfl, (by show CPow 10 6; exact ⟨by decide, by decide, by decide⟩), r, _, rfl, S1, by decide, by decide, fun wh H2 w0 w1 S2 k2 => ?_⟩
    refine g _ _ ?_
    have k02 := k1.trans k2
    have W2 := (W.spr S0 k1 nar).spr S1 k2 nar
    have C2 := (C.spr S0 k1 ncr).spr S1 k2 ncr
    obtain ⟨vs, ha, dv⟩ := id W2
    have vl : vs.length = ws.length := by rw [dv.length, List.length_map]
    refine ⟨_, rfl, a, _, rfl, .inl (SqL.of ha), _, rfl, by omega, by omega, ?_⟩
    rw [show ((vs.length : Nat) : Int).toNat = ws.length by omega]
    refine for_range (lo := 0) (n := ws.length) (fun i σ H3 => ∃ (x1 x2 x3 : Option V), σ = (pSt r a c only at_ wh x1 x2 x3) ∧ Same H2 H3)
      ⟨none, none, none, rfl, Same.refl _⟩ ?_ ?_
    · rintro i σ H3 hi ⟨x1, x2, x3, rfl, s3⟩
      have ha3 := s3 _ _ ha
      refine ⟨_, rfl, _, rfl, _, _, rfl, rfl, _, rfl, a, _, rfl, .inl (SqL.of ha3), _, _, rfl, rfl, by omega, ?_⟩
      have j0 : 0 ≤ (at_ + (0 + (i : Int))) % (vs.length : Int) := Int.emod_nonneg _ (by omega)
      have j1 : (at_ + (0 + (i : Int))) % (vs.length : Int) < vs.length := Int.emod_lt_of_pos _ (by omega)
      obtain ⟨jn, ejn⟩ := Int.eq_ofNat_of_zero_le j0
      have ej : (fun (i j : Int) => V.int (i % j)) (at_ + (0 + (i : Int))) (vs.length : Int) = V.int (jn : Int) := by show V.int _ = _; rw [ejn]
      rw [ej]
      have jl : jn < ws.length := by rw [ejn] at j1; omega
      obtain ⟨y, ey⟩ : ∃ y, ws[jn]? = some y := ⟨ws[jn], by simp [jl]⟩
      have W3 := W2.same s3
      have C3 := C2.same s3
      refine ⟨_, rfl, (jn : Int), rfl, by omega, by omega, fun D hD => ?_⟩
      rw [Int.toNat_natCast]
      refine comp_valR (fun (i : Nat) => if pkB ws only jn i then some (V.int (0 + (i : Int))) else none) hD (by omega) (fun m H4 G F hm s4 kG kF => ?_) (fun H4 s4 e4 => ?_)
      · obtain ⟨x, ex⟩ : ∃ x, ws[m]? = some x := ⟨ws[m]'(by omega), by simp [show m < ws.length by omega]⟩
        obtain ⟨vx, q, hwx, eqx, hqx⟩ := web_get (W3.same s4) ex
        obtain ⟨vy, q', hwy, eqy, hqy⟩ := web_get (W3.same s4) ey
        refine ⟨_, rfl, _, rfl, _, _, _, _, rfl, rfl, SqL.of hwx, atI0 eqx, _, _, _, _, rfl, rfl, SqT.of hqx, rfl, _, rfl, _, rfl, _, _, _, _, rfl, rfl, SqL.of hwy, atI_nat eqy, _, _, _, _, rfl, rfl, SqT.of hqy, rfl, rfl, _, rfl, ?_⟩
        by_cases e1 : x.1 = y.1
        · refine iteNS (by rw [e1]) ?_
          exact kG H4 (Same.refl _) (by simp [pkB, ex, ey, e1])
        · refine ite2 (fun _ => ?_) (fun z => absurd (by simp [e1]) z)
          refine ⟨_, rfl, rfl, _, rfl, ?_⟩
          by_cases e2 : only = 0
          · refine ite2 (fun _ => ?_) (fun z => absurd (decide_eq_true (by rw [e2])) z)
            exact ⟨_, rfl, kF _ H4 (Same.refl _) (by simp [pkB, ex, ey, e1, e2])⟩
          · refine ite2 (fun z => absurd (of_decide_eq_true z) (fun w => e2 (by injection w))) (fun _ => ?_)
            refine ⟨_, rfl, _, rfl, _, _, _, _, rfl, rfl, SqL.of hwx, atI0 eqx, _, rfl, _, rfl, _, _, _, _, rfl, rfl, SqL.of hwy, atI_nat eqy, q, q', x, y, rfl, hqx, hqy, _, rfl, ?_⟩
            cases e3 : mt x y with
            | true => exact iteT ⟨_, rfl, kF _ H4 (Same.refl _) (by simp [pkB, ex, ey, e1, e3])⟩
            | false => exact iteF (kG H4 (Same.refl _) (by simp [pkB, ex, ey, e1, e2, e3]))
      rw [pk_map] at e4
      have s34 := s3.trans s4
      refine ⟨_, rfl, (by show 0 ≤ sizeLine; decide), fun q hq => ?_⟩
      have s5 := same_new (o := HO.lst []) hq
      refine ⟨_, _, dat_ints (s5 _ _ e4), dat_ints (ns := []) upd_same, shaped_ints _, shaped_ints _, _, rfl, ?_⟩
      rw [if_pos rfl, eqv_list PyData.int eqv_int]
      have s35 := s34.trans s5
      refine ite2 (fun w => ?_) (fun _ => ⟨_, _, _, rfl, s35⟩)
      have w : pk ws only jn ≠ [] := by simpa using w
      have pl : 0 < (pk ws only jn).length := List.length_pos_iff.mpr w
      have e5 := s5 _ _ e4
      have z0 : 0 ≤ wh % ((pk ws only jn).length : Int) := Int.emod_nonneg _ (by omega)
      have z1 : wh % ((pk ws only jn).length : Int) < (pk ws only jn).length := Int.emod_lt_of_pos _ (by omega)
      obtain ⟨h, ath, hm⟩ := get_mem z0 z1
      obtain ⟨h0, h1⟩ := pk_mem hm
      have C5 := C2.same s35
      obtain ⟨vc, t1, x, hc5, at1, ht1, _⟩ := prs_nat C5 h0 (by rw [nm_length]; omega)
      obtain ⟨vc', t2, x', hc5', at2, ht2, _⟩ := prs_nat C5 (h := (jn : Int)) (by omega) (by rw [nm_length]; omega)
      refine ⟨_, rfl, _, rfl, _, rfl, _, rfl, D, _, rfl, .inl (SqL.of e5), _, _, rfl, rfl, by rw [List.length_map]; omega, _, _, _, _, rfl, rfl, SqL.of e5, by rw [List.length_map]; exact ath, _, _, _, _, rfl, rfl, SqL.of hc5, at1, _, rfl, _, rfl, _, _, _, _, rfl, rfl, SqL.of hc5', at2, _, _, _, _, rfl, rfl, SqT.of ht1, SqT.of ht2, by simp, (by show 4 ≤ sizeLine; decide), fun z => by simp at z, fun _ p hp => ?_⟩
      have s6 := same_new (o := HO.tup ([V.int x.1, V.int x.2] ++ [V.int x'.1, V.int x'.2])) hp
      exact k p (x.1, x.2, x'.1, x'.2) _ upd_same (S2.keep (s35.trans s6)) (k02.trans (.of_same (s35.trans s6)))
    · rintro σ H3 ⟨x1, x2, x3, rfl, s3⟩
      refine ⟨(by show 4 ≤ sizeLine; decide), fun t ht => ?_⟩
      have s4 := same_new (o := HO.tup [V.int 0, V.int 0, V.int 1, V.int 0]) ht
      exact k t (0, 0, 1, 0) _ upd_same (S2.keep (s3.trans s4)) (k02.trans (.of_same (s3.trans s4)))
def spStrange (K : PySem.W.Frag) : Sp := fun vs H Q _ => ∃ (r t : Addr) (x : Nt), vs = [.ref r, .ref t] ∧ SpringOk H r ∧ H t = some (.tup (nV x)) ∧ AnyN Q H r
theorem ok_strange {f : Addr} {fd : FuncData} (F : Fun K "_law_strange" "_law_strange" s_Lstrange f fd) (F_Ldraw : FnAt P w K mg base 1 "_law_draw" ["spring", "many"] (spDraw K)) : FnOk P w K mg base CX0 2 f fd ["spring", "note"] (spStrange K) := by
  refine F.ok sc_Lstrange (fun vs H Q E h => ?_) (fun cdv A outer s H vs Q E hr h => ?_)
  · obtain ⟨r, t, x, rfl, _⟩ := h
    rfl
  · obtain ⟨r, t, x, rfl, S0, ht, k⟩ := h
    refine ⟨_, (pss_cons (ps_set (i := 2) sc_Lstrange.nd rfl (Or.inl rfl) (pe_fn F_Ldraw (hr.mono (by decide)) (by rfl) (pa_cons (pv 0) (pa_cons pe_int pa_nil))))
      (pss_cons (ps_set (i := 3) sc_Lstrange.nd rfl (Or.inl rfl) (pe_fn F_Ldraw (hr.mono (by decide)) (by rfl) (pa_cons (pv 0) (pa_cons pe_int pa_nil))))
      (pss_cons (ps_if (pt_cmpR op_gt (pv 3) pe_int (nomark _)) (pss_one (ps_ret (pe_op (op_catTK (K := K) rfl) (pe_slice (sl_tupK (K := K) rfl) (pv 1) (po_some pe_int) po_none) (pe_slice (sl_tupK (K := K) rfl) (pv 1) po_none (po_some pe_int))))) pss_nil)
      (pss_cons (ps_set (i := 4) sc_Lstrange.nd rfl (Or.inl rfl) (pe_ix (ix_listK (K := K) rfl) (pe_lst (pa_cons (pe_op op_add (pe_ix (ix_tupK (K := K) rfl) (pv 1) (pv 2) (fun _ _ => rfl)) pe_int) (pa_cons (pe_op op_sub (pe_ix (ix_tupK (K := K) rfl) (pv 1) (pv 2) (fun _ _ => rfl)) pe_int) (pa_cons (pe_op op_sub (pe_un un_neg pe_int) (pe_ix (ix_tupK (K := K) rfl) (pv 1) (pv 2) (fun _ _ => rfl))) (pa_cons (pe_op op_pow pe_int pe_int) (pa_cons (pe_op op_sub pe_int (pe_op op_pow pe_int pe_int)) (pa_cons (pe_op op_add (pe_ix (ix_tupK (K := K) rfl) (pv 1) (pv 2) (fun _ _ => rfl)) pe_int) (pa_cons (pe_ix (ix_tupK (K := K) rfl) (pv 1) (pe_op op_mod (pe_op op_add (pv 2) pe_int) pe_int) (fun _ _ => rfl)) pa_nil)))))))) (pv 3) (fun _ _ => rfl)))
      (pss_one (ps_ret (pe_op op_catTU (pe_op op_catTU (pe_slice (sl_tupK (K := K) rfl) (pv 1) po_none (po_some (pv 2))) (pe_tup (pa_cons (pv 4) pa_nil))) (pe_slice (sl_tupK (K := K) rfl) (pv 1) (po_some (pe_op op_add (pv 2) pe_int)) po_none)))))))), ?_⟩
    refine ⟨_, rfl, r, 4, rfl, S0, by decide, by decide, fun at_ H1 a0 a1 S1 k1 => ?_⟩
    refine ⟨_, rfl, r, 8, rfl, S1, by decide, by decide, fun how H2 h0 h1 S2 k2 => ?_⟩
    have k02 := k1.trans k2
    have ht2 := S1.tups k2 _ _ (S0.tups k1 _ _ ht)
    refine ⟨_, rfl, _, _, rfl, rfl, _, rfl, ?_⟩
    refine ite2 (fun w => ?_) (fun w => ?_)
    · refine ⟨_, rfl, _, rfl, _, _, rfl, SqT.of ht2, part4b _ rfl, fun q3 hq3 => ?_⟩
      rw [show cutV (nV x) (some 2) none = [.int x.2.2.1, .int x.2.2.2] from cut4b ..]
      have sp3 := same_new (o := HO.tup [V.int x.2.2.1, V.int x.2.2.2]) hq3
      refine ⟨_, rfl, _, rfl, _, _, rfl, SqT.of (sp3 _ _ ht2), part4a _ rfl, fun q4 hq4 => ?_⟩
      rw [show cutV (nV x) none (some 2) = [.int x.1, .int x.2.1] from cut4a ..]
      have sp4 := same_new (o := HO.tup [V.int x.1, V.int x.2.1]) hq4
      refine ⟨_, _, _, _, rfl, rfl, SqT.of (sp4 _ _ upd_same), SqT.of upd_same, by simp, (by show 4 ≤ sizeLine; decide), fun z => by simp at z, fun _ q5 hq5 => ?_⟩
      have sp5 := same_new (o := HO.tup ([V.int x.2.2.1, V.int x.2.2.2] ++ [V.int x.1, V.int x.2.1])) hq5
      have s35 := (sp3.trans sp4).trans sp5
      exact k q5 (x.2.2.1, x.2.2.2, x.1, x.2.1) _ upd_same (S2.keep s35) (k02.trans (.of_same s35))
    have w : ¬ how > 6 := fun z => w (decide_eq_true z)
    obtain ⟨v, ev⟩ : ∃ v : Int, atI (nV x) at_ = some (.int v) := by
      have : at_ = 0 ∨ at_ = 1 ∨ at_ = 2 ∨ at_ = 3 := by omega
      rcases this with rfl | rfl | rfl | rfl <;> exact ⟨_, rfl⟩
    obtain ⟨v2, ev2⟩ : ∃ v : Int, atI (nV x) ((at_ + 2) % 4) = some (.int v) := by
      have : at_ = 0 ∨ at_ = 1 ∨ at_ = 2 ∨ at_ = 3 := by omega
      rcases this with rfl | rfl | rfl | rfl <;> exact ⟨_, rfl⟩
    have cp : CPow 10 29 := ⟨by decide, by decide, by decide⟩
    refine ⟨_, rfl, _, rfl, _, _, _, _, rfl, rfl, SqT.of ht2, ev, _, _, rfl, rfl, ?_⟩
    refine ⟨_, rfl, _, rfl, _, _, _, _, rfl, rfl, SqT.of ht2, ev, _, _, rfl, rfl, ?_⟩
    refine ⟨_, rfl, _, rfl, _, rfl, _, _, _, _, rfl, rfl, SqT.of ht2, ev, _, _, rfl, rfl, ?_⟩
    refine ⟨_, _, rfl, rfl, cp, ?_⟩
    refine ⟨_, _, rfl, rfl, cp, _, _, rfl, rfl, ?_⟩
    refine ⟨_, rfl, _, rfl, _, _, _, _, rfl, rfl, SqT.of ht2, ev, _, _, rfl, rfl, ?_⟩
    refine ⟨_, rfl, _, rfl, _, _, rfl, rfl, _, _, rfl, rfl, (by show (0 : Int) < 4; decide), _, _, _, _, rfl, rfl, SqT.of ht2, ev2, ?_⟩
    refine ⟨(by show 7 ≤ sizeLine; decide), fun q hq => ?_⟩
    have s3 := same_new (o := HO.lst (([v + 1, v - 1, -1 - v, 10 ^ (29 : Int).toNat, 0 - 10 ^ (29 : Int).toNat, v + 8, v2] : List Int).map V.int)) hq
    have en := atI_gI (cs := [v + 1, v - 1, -1 - v, 10 ^ (29 : Int).toNat, 0 - 10 ^ (29 : Int).toNat, v + 8, v2]) (h := how) h0 (by show how < 7; omega)
    refine ⟨_, rfl, _, _, _, _, rfl, rfl, SqL.of upd_same, en, ?_⟩
    generalize gI [v + 1, v - 1, -1 - v, 10 ^ (29 : Int).toNat, 0 - 10 ^ (29 : Int).toNat, v + 8, v2] how = nb
    have ht3 := s3 _ _ ht2
    refine ⟨_, rfl, _, rfl, _, rfl, _, _, rfl, SqT.of ht3, put_a x a0 a1, fun q1 hq1 => ?_⟩
    have v1 := same_new (o := HO.tup (cutV (nV x) none (some at_))) hq1
    refine ⟨_, rfl, (by show 1 ≤ sizeLine; decide), fun q2 hq2 => ?_⟩
    have v2' := same_new (o := HO.tup [V.int nb]) hq2
    have l1' := cutV_length (nV x) none (some at_)
    have l2' := cutV_length (nV x) (some (at_ + 1)) none
    have l4 : (nV x).length = 4 := rfl
    refine ⟨_, _, _, _, rfl, rfl, v2' _ _ upd_same, upd_same, by rw [sizeLine_eq]; simp only [List.length_singleton]; omega, fun q3 H5 e5 v3 => ?_⟩
    have v13 := (v1.trans v2').trans v3
    refine ⟨_, rfl, _, rfl, _, _, rfl, rfl, _, rfl, _, _, rfl, SqT.of (v13 _ _ ht3), put_b x a0 a1, fun q4 hq4 => ?_⟩
    have v4 := same_new (o := HO.tup (cutV (nV x) (some (at_ + 1)) none)) hq4
    refine ⟨_, _, _, _, rfl, rfl, v4 _ _ e5, upd_same, by rw [sizeLine_eq]; simp only [List.length_append, List.length_singleton]; omega, fun q5 H6 e6 v5 => ?_⟩
    rw [put_at x a0 a1] at e6
    have v15 := (v13.trans v4).trans v5
    exact k q5 (putN x at_ nb) H6 e6 (S2.keep (s3.trans v15)) (k02.trans (.of_same (s3.trans v15)))
def spFree (K : PySem.W.Frag) : Sp := fun vs H Q _ => ∃ (r c : Addr) (ps : List Prs), vs = [.ref r, .ref c] ∧ SpringOk H r ∧ PrsAt H c ps ∧ c ≠ r ∧ ps.length ≤ 300 ∧ AnyN Q H r
theorem ok_free {f : Addr} {fd : FuncData} (F : Fun K "_law_free" "_law_free" s_Lfree f fd) (F_Ldraw : FnAt P w K mg base 1 "_law_draw" ["spring", "many"] (spDraw K)) (Bt : Blt mg) : FnOk P w K mg base CX0 2 f fd ["spring", "calls"] (spFree K) := by
  refine F.ok sc_Lfree (fun vs H Q E h => ?_) (fun cdv A outer s H vs Q E hr h => ?_)
  · obtain ⟨r, c, ps, rfl, _⟩ := h
    rfl
  · obtain ⟨r, c, ps, rfl, S0, C, ncr, pl, k⟩ := h
    refine ⟨_, (pss_cons (ps_setC (i := 2) rfl sc_Lfree.nd rfl (Or.inl rfl) (N := ["turn", "spring"]) (own := ["turn"]) (caps := [0]) (CompScope.of (by kernel_rfl)) (pi_range1 (by rfl) Bt.b_range (pa_cons pe_int pa_nil)) (fun _ _ _ _ => (pg_name (i := 0) (show List.Nodup (["turn", "spring"] : List Str) by decide +kernel) rfl (Or.inl rfl))) (fun _ _ _ _ => pts_nil) (fun _ _ _ _ => (pe_op op_sub (pe_fn F_Ldraw (hr.mono (by decide)) (by rfl) (pa_cons (pv 1) (pa_cons pe_int pa_nil))) pe_int)))
      (pss_cons (ps_setC (i := 3) rfl sc_Lfree.nd rfl (Or.inl rfl) (N := ["turn", "spring", "calls"]) (own := ["turn"]) (caps := [0, 1]) (CompScope.of (by kernel_rfl)) (pi_range1 (by rfl) Bt.b_range (pa_cons pe_int pa_nil)) (fun _ _ _ _ => (pg_name (i := 0) (show List.Nodup (["turn", "spring", "calls"] : List Str) by decide +kernel) rfl (Or.inl rfl))) (fun _ _ _ _ => pts_nil) (fun _ _ _ _ => (pe_op op_sub (pe_fn F_Ldraw (hr.mono (by decide)) (by rfl) (pa_cons (pv 1) (pa_cons (pe_op op_add (pe_callB (call_len_seqK (K := K) rfl) (by rfl) Bt.b_len bt_len (pa_cons (pv 2) pa_nil)) pe_int) pa_nil))) pe_int)))
      (pss_one (ps_ret (pe_tup (pa_cons (pe_ix (ix_listK (K := K) rfl) (pv 2) pe_int (fun _ _ => rfl)) (pa_cons (pe_ix (ix_listK (K := K) rfl) (pv 3) pe_int (fun _ _ => rfl)) (pa_cons (pe_ix (ix_listK (K := K) rfl) (pv 2) pe_int (fun _ _ => rfl)) (pa_cons (pe_ix (ix_listK (K := K) rfl) (pv 3) pe_int (fun _ _ => rfl)) pa_nil))))))))), ?_⟩
    refine ⟨2, rfl, by decide, by decide, fun D hD => ?_⟩
    refine comp_sprR hD S0 (by decide) (fun i H1 F hi k1 S1 kF => ?_) (fun H1 zs zl e1 k1 S1 => ?_)
    · exact ⟨_, rfl, r, 10, rfl, S1, by decide, by decide, fun z H2 z0 z1 S2 k2 => ⟨_, _, rfl, rfl, kF _ H2 k2 S2⟩⟩
    have nDr := S0.ne hD
    refine ⟨2, rfl, by decide, by decide, fun D2 hD2 => ?_⟩
    refine comp_sprR hD2 S1 (by decide) (fun i H2 F hi k2 S2 kF => ?_) (fun H2 ys yl e2 k2 S2 => ?_)
    · have C2 := (C.spr S0 k1 ncr).spr S1 k2 ncr
      obtain ⟨vs, hc2, dv2⟩ := id C2
      have vl : vs.length = ps.length := by rw [dv2.length, List.length_map]
      exact ⟨_, rfl, _, rfl, c, _, rfl, .inl (SqL.of hc2), _, _, rfl, rfl, r, _, rfl, S2, by omega, by omega, fun z H3 z0 z1 S3 k3 => ⟨_, _, rfl, rfl, kF _ H3 k3 S3⟩⟩
    have e12 := k2 _ _ e1 nDr
    have z2 : zs.length = 2 := zl
    have y2 : ys.length = 2 := yl
    refine ⟨_, rfl, _, _, _, _, rfl, rfl, SqL.of e12, atI_gI (by decide) (by omega), _, rfl, _, _, _, _, rfl, rfl, SqL.of e2, atI_gI (by decide) (by omega), _, rfl, _, _, _, _, rfl, rfl, SqL.of e12, atI_gI (by decide) (by omega), _, rfl, _, _, _, _, rfl, rfl, SqL.of e2, atI_gI (by decide) (by omega), (by show 4 ≤ sizeLine; decide), fun p hp => ?_⟩
    have s3 := same_new (o := HO.tup (nV (gI zs 0, gI ys 0, gI zs 1, gI ys 1))) hp
    exact k p (gI zs 0, gI ys 0, gI zs 1, gI ys 1) _ upd_same (S2.keep s3) ((k1.trans k2).trans (.of_same s3))

/-! ### a note near a want -/
theorem fm_filt {α β : Type} (p : α → Bool) (g : α → β) : ∀ l : List α, (List.range l.length).filterMap (fun i => (l[i]?).bind fun x => if p x then some (g x) else none) = (l.filter p).map g
  | [] => rfl
  | x :: l => by
    have ih := fm_filt p g l
    rw [List.length_cons, List.range_succ_eq_map, List.filterMap_cons, List.filterMap_map, List.filter_cons]
    cases q : p x
    · simp [q]; exact ih
    · simp [q]; exact ih
def sel (ps : List Prs) (h : Int) : List Int := (List.range ps.length).filterMap fun (i : Nat) => if (ps[i]?).map (·.1) = some h then some (i : Int) else none
theorem sel_map (ps : List Prs) (h : Int) : (List.range ps.length).filterMap (fun (i : Nat) => if (ps[i]?).map (·.1) = some h then some (V.int (0 + (i : Int))) else none) = (sel ps h).map V.int := by
  unfold sel
  rw [List.map_filterMap]
  refine fm_congr _ trivial fun i _ => ?_
  split <;> simp
theorem sel_mem {ps : List Prs} {h z : Int} (m : z ∈ sel ps h) : 0 ≤ z ∧ z < ps.length := by
  unfold sel at m
  rw [List.mem_filterMap] at m
  obtain ⟨i, hi, e⟩ := m
  have hi' : i < ps.length := by simpa using hi
  split at e
  · cases e; exact ⟨by omega, by omega⟩
  · cases e
theorem sel_len (ps : List Prs) (h : Int) : (sel ps h).length ≤ ps.length := fm_len _ _
def spNear (K : PySem.W.Frag) : Sp := fun vs H Q _ => ∃ (r c t : Addr) (ps : List Prs) (x : Nt), vs = [.ref r, .ref c, .ref t] ∧ SpringOk H r ∧ PrsAt H c ps ∧ c ≠ r ∧ ps.length ≤ 300 ∧ H t = some (.tup (nV x)) ∧ AnyN Q H r
/-- the names of ok_near as they stand -/
def nSt (a0 : Addr) (a1 : Addr) (a2 : Addr) (a3 : Addr) (a4 : Addr) (a5 : Int) (a6 : Addr) (x7 : Option V) (x8 : Option V) (x9 : Option V) : St := [some (.ref a0), some (.ref a1), some (.ref a2), some (.ref a3), some (.ref a4), some (.int a5), some (.ref a6), x7, x8, x9]
theorem ok_near {f : Addr} {fd : FuncData} (F : Fun K "_law_near" "_law_near" s_Lnear f fd) (F_Ldraw : FnAt P w K mg base 1 "_law_draw" ["spring", "many"] (spDraw K)) (Bt : Blt mg) : FnOk P w K mg base CX0 2 f fd ["spring", "calls", "want"] (spNear K) := by
  refine F.ok sc_Lnear (fun vs H Q E h => ?_) (fun cdv A outer s H vs Q E hr h => ?_)
  · obtain ⟨r, c, t, ps, x, rfl, _⟩ := h
    rfl
  · obtain ⟨r, c, t, ps, x, rfl, S0, C, ncr, pl, ht, k⟩ := h
    have hu64 := hr.units
    refine ⟨_, (pss_cons (ps_setC (i := 3) rfl sc_Lnear.nd rfl (Or.inl rfl) (N := ["at", "want", "calls"]) (own := ["at"]) (caps := [2, 1]) (CompScope.of (by kernel_rfl)) (pi_range1 (by rfl) Bt.b_range (pa_cons (pe_callB (call_len_seqK (K := K) rfl) (by rfl) Bt.b_len bt_len (pa_cons (pv 1) pa_nil)) pa_nil)) (fun _ _ _ _ => (pg_name (i := 0) (show List.Nodup (["at", "want", "calls"] : List Str) by decide +kernel) rfl (Or.inl rfl))) (fun _ _ _ _ => (pts_one (pt_cmpR op_eq (pe_ix (ix_tupK (K := K) rfl) (pe_ix (ix_listK (K := K) rfl) (pv 2) (pv 0) (fun _ _ => rfl)) pe_int (fun _ _ => rfl)) (pe_ix (ix_tupK (K := K) rfl) (pv 1) pe_int (fun _ _ => rfl)) (nomark _)))) (fun _ _ _ _ => (pv 0)))
      (pss_cons (ps_setC (i := 4) rfl sc_Lnear.nd rfl (Or.inl rfl) (N := ["at", "want", "calls"]) (own := ["at"]) (caps := [2, 1]) (CompScope.of (by kernel_rfl)) (pi_range1 (by rfl) Bt.b_range (pa_cons (pe_callB (call_len_seqK (K := K) rfl) (by rfl) Bt.b_len bt_len (pa_cons (pv 1) pa_nil)) pa_nil)) (fun _ _ _ _ => (pg_name (i := 0) (show List.Nodup (["at", "want", "calls"] : List Str) by decide +kernel) rfl (Or.inl rfl))) (fun _ _ _ _ => (pts_one (pt_cmpR op_eq (pe_ix (ix_tupK (K := K) rfl) (pe_ix (ix_listK (K := K) rfl) (pv 2) (pv 0) (fun _ _ => rfl)) pe_int (fun _ _ => rfl)) (pe_ix (ix_tupK (K := K) rfl) (pv 1) pe_int (fun _ _ => rfl)) (nomark _)))) (fun _ _ _ _ => (pv 0)))
      (pss_cons (ps_set (i := 5) sc_Lnear.nd rfl (Or.inl rfl) (pe_fn F_Ldraw (hr.mono (by decide)) (by rfl) (pa_cons (pv 0) (pa_cons (pe_op op_pow pe_int pe_int) pa_nil))))
      (pss_cons (ps_set (i := 6) sc_Lnear.nd rfl (Or.inl rfl) (pe_lst pa_nil))
      (pss_cons (ps_for PassesOwn.never rfl (pi_listK (K := K) rfl (pv 4)) (pg_name (i := 7) sc_Lnear.nd rfl (Or.inr rfl))
      (pss_one (ps_expr (pe_bmK (K := K) rfl PySem.F.plainAttrs_list PySem.F.slot_list_extend PySem.F.type_list_extend mt_extend (pv 6) (pa_cons (pe_comp rfl (N := ["one", "at"]) (own := ["one"]) (caps := [7]) (CompScope.of (by kernel_rfl)) (pi_listK (K := K) rfl (pv 3)) (fun _ _ _ _ => (pg_name (i := 0) (show List.Nodup (["one", "at"] : List Str) by decide +kernel) rfl (Or.inl rfl))) (fun _ _ _ _ => (pts_one (pt_cmpR op_lt (pv 0) (pv 1) (nomark _)))) (fun _ _ _ _ => (pe_tup (pa_cons (pv 0) (pa_cons (pv 1) pa_nil))))) pa_nil)))))
      (pss_cons (ps_if (pt_cmpR (op_eqDK (K := K) rfl hu64) (pv 6) (pe_lst pa_nil) (nomark _)) (pss_one (ps_ret (pv 2))) pss_nil)
      (pss_cons (ps_asg (pe_ix (ix_listK (K := K) rfl) (pv 6) (pe_op op_mod (pv 5) (pe_callB (call_len_seqK (K := K) rfl) (by rfl) Bt.b_len bt_len (pa_cons (pv 6) pa_nil))) (fun _ _ => rfl)) (pg_tupK (K := K) (n := 2) rfl rfl (pgs_cons (pg_name (i := 8) sc_Lnear.nd rfl (Or.inl rfl)) (pgs_cons (pg_name (i := 9) sc_Lnear.nd rfl (Or.inl rfl)) pgs_nil))))
      (pss_one (ps_ret (pe_op (op_catTK (K := K) rfl) (pe_ix (ix_listK (K := K) rfl) (pv 1) (pv 8) (fun _ _ => rfl)) (pe_ix (ix_listK (K := K) rfl) (pv 1) (pv 9) (fun _ _ => rfl)))))))))))), ?_⟩
    obtain ⟨vs, hc, dv⟩ := id C
    have vl : vs.length = ps.length := by rw [dv.length, List.length_map]
    have lnm : ((vs.length : Nat) : Int).toNat = ps.length := by omega
    -- ones
    refine seq_one (fun R g => ?_)
    refine ⟨_, rfl, c, _, rfl, .inl (SqL.of hc), _, rfl, by omega, by omega, fun O hO => ?_⟩
    rw [lnm]
    refine comp_valR (fun (i : Nat) => if (ps[i]?).map (·.1) = some x.1 then some (V.int (0 + (i : Int))) else none) hO (by omega) (fun m H1 G F hm s1 kG kF => ?_) (fun H1 s1 e1 => ?_)
    · obtain ⟨y, ey⟩ : ∃ y, ps[m]? = some y := ⟨ps[m], by simp [hm]⟩
      obtain ⟨vy, q, hcy, eqy, hqy⟩ := prs_at (C.same s1) ey
      refine ⟨_, rfl, _, rfl, _, _, _, _, rfl, rfl, SqL.of hcy, atI0 eqy, _, _, _, _, rfl, rfl, SqT.of hqy, rfl, _, rfl, _, _, _, _, rfl, rfl, SqT.of (s1 _ _ ht), rfl, rfl, _, rfl, ?_⟩
      by_cases e : y.1 = x.1
      · refine ite2 (fun _ => ?_) (fun z => absurd (decide_eq_true (by rw [e])) z)
        exact ⟨_, rfl, kF _ H1 (Same.refl _) (by rw [ey, if_pos (by simp [e])])⟩
      · refine ite2 (fun z => absurd (of_decide_eq_true z) (fun w => e (by injection w))) (fun _ => ?_)
        exact kG H1 (Same.refl _) (by rw [ey, if_neg (by simp [e])])
    rw [sel_map] at e1
    refine g _ _ ?_
    have hc1 := s1 _ _ hc
    have ht1 := s1 _ _ ht
    -- others
    refine seq_one (fun R g => ?_)
    refine ⟨_, rfl, c, _, rfl, .inl (SqL.of hc1), _, rfl, by omega, by omega, fun T hT => ?_⟩
    rw [lnm]
    refine comp_valR (fun (i : Nat) => if (ps[i]?).map (·.1) = some x.2.2.1 then some (V.int (0 + (i : Int))) else none) hT (by omega) (fun m H2 G F hm s2 kG kF => ?_) (fun H2 s2 e2 => ?_)
    · obtain ⟨y, ey⟩ : ∃ y, ps[m]? = some y := ⟨ps[m], by simp [hm]⟩
      obtain ⟨vy, q, hcy, eqy, hqy⟩ := prs_at ((C.same s1).same s2) ey
      refine ⟨_, rfl, _, rfl, _, _, _, _, rfl, rfl, SqL.of hcy, atI0 eqy, _, _, _, _, rfl, rfl, SqT.of hqy, rfl, _, rfl, _, _, _, _, rfl, rfl, SqT.of (s2 _ _ ht1), rfl, rfl, _, rfl, ?_⟩
      by_cases e : y.1 = x.2.2.1
      · refine ite2 (fun _ => ?_) (fun z => absurd (decide_eq_true (by rw [e])) z)
        exact ⟨_, rfl, kF _ H2 (Same.refl _) (by rw [ey, if_pos (by simp [e])])⟩
      · refine ite2 (fun z => absurd (of_decide_eq_true z) (fun w => e (by injection w))) (fun _ => ?_)
        exact kG H2 (Same.refl _) (by rw [ey, if_neg (by simp [e])])
    rw [sel_map] at e2
    refine g _ _ ?_
    have s12 := s1.trans s2
    have S2 := S0.keep s12
    -- which
    refine seq_one (fun R g => ?_)
    refine ⟨_, rfl, _, _, rfl, rfl, (by show CPow 10 6; exact ⟨by decide, by decide, by decide⟩), r, _, rfl, S2, by decide, by decide, fun wh H3 w0 w1 S3 k3 => ?_⟩
    refine g _ _ ?_
    have nO : O ≠ r := S0.ne hO
    have nT : T ≠ r := (S0.keep s1).ne hT
    have eO := k3 _ _ (s2 _ _ e1) nO
    have eT := k3 _ _ e2 nT
    have C3 := (C.same s12).spr S2 k3 ncr
    have ht3 := S2.tups k3 _ _ (s12 _ _ ht)
    have k03 : Kp r H H3 := (Kp.of_same s12).trans k3
    -- pairs
    refine seq_one (fun R g => ?_)
    refine ⟨(by show 0 ≤ sizeLine; decide), fun P hP => ?_⟩
    refine g _ _ ?_
    have s4 := same_new (o := HO.lst []) hP
    have nPr := S3.ne hP
    have ol := sel_len ps x.1
    have tl := sel_len ps x.2.2.1
    have nPO : O ≠ P := ne_of_none eO hP
    refine ⟨_, rfl, T, rfl, ⟨_, SqL.of (s4 _ _ eT)⟩, ?_⟩
    refine for_list (K := K) (a := T) (xs := (sel ps x.2.2.1).map V.int) (fun i σ H5 => ∃ (x1 : Option V) (us : List V) (qs : List Prs), σ = (nSt r c t O T wh P x1 none none) ∧ H5 P = some (.lst us) ∧ Dats H5 us (qs.map pD) ∧ qs.length ≤ 300 * i ∧ (∀ y ∈ qs, (0 ≤ y.1 ∧ y.1 < ps.length) ∧ (0 ≤ y.2 ∧ y.2 < ps.length)) ∧ Same H3 H5)
      ⟨none, [], [], rfl, upd_same, by simp [Dats], by simp, fun y hy => (by cases hy), s4⟩ (fun i σ H5 _ ⟨_, _, _, _, _, _, _, _, sm⟩ => SqL.of (sm _ _ eT)) ?_ ?_
    · rintro i v σ H5 hi ⟨x1, us, qs, rfl, hP5, du, ql, qok, s5⟩
      have il := (List.getElem?_eq_some_iff.mp hi).1
      rw [List.length_map] at il
      obtain ⟨m, rfl, hm⟩ : ∃ m, v = V.int m ∧ m ∈ sel ps x.2.2.1 := by
        rw [List.getElem?_map] at hi
        cases e : (sel ps x.2.2.1)[i]? with
        | none => rw [e] at hi; cases hi
        | some z => rw [e] at hi; exact ⟨z, (Option.some.inj hi).symm, List.mem_of_getElem? e⟩
      have mok := sel_mem hm
      have eO5 := s5 _ _ eO
      have ul : us.length = qs.length := by rw [du.length, List.length_map]
      refine ⟨_, rfl, .inl ⟨rfl, _, SqL.of hP5⟩, _, rfl, O, rfl, ⟨_, SqL.of eO5⟩, fun D hD => ?_⟩
      refine comp_datL (K := K) (fun i => ((sel ps x.1)[i]?).bind fun o => if decide (o < m) then some (pD (o, m)) else none) (fun i dd e => ?_) hD (SqL.of eO5) (by rw [List.length_map]; omega) (fun i v H6 G F hi6 s6 kG kF => ?_) (fun H6 ws' s6 e6 d6 => ?_)
      · cases ex : (sel ps x.1)[i]? with
        | none => rw [ex] at e; cases e
        | some o =>
          rw [ex, Option.bind_some] at e
          split at e
          · cases e; rfl
          · cases e
      · rw [List.getElem?_map] at hi6
        cases ex : (sel ps x.1)[i]? with
        | none => rw [ex] at hi6; cases hi6
        | some o =>
          rw [ex] at hi6
          cases hi6
          simp only [ex, Option.bind_some] at kG kF
          refine ⟨_, rfl, _, rfl, _, _, rfl, rfl, _, rfl, ?_⟩
          refine ite2 (fun w => ?_) (fun w => ?_)
          · refine ⟨_, rfl, _, rfl, (by show 2 ≤ sizeLine; decide), fun q hq => ?_⟩
            exact kF _ (pD (o, m)) _ (same_new hq) (by rw [if_pos w]) (dat_prs (x := (o, m)) upd_same)
          · exact kG _ (Same.refl _) (by rw [if_neg w])
      rw [List.length_map, fm_filt (fun o : Int => decide (o < m)) (fun o => pD (o, m))] at d6
      have d6' : Dats H6 ws' ((((sel ps x.1).filter fun o => decide (o < m)).map fun o => ((o, m) : Prs)).map pD) := by rw [List.map_map]; exact d6
      have fl : ((sel ps x.1).filter fun o => decide (o < m)).length ≤ (sel ps x.1).length := List.length_filter_le _ _
      have wl : ws'.length ≤ 300 := by rw [d6.length, List.length_map]; omega
      have hP6 := s6 _ _ hP5
      refine ⟨P, D, us, ws', rfl, rfl, hP6, e6, by rw [sizeLine_eq]; have : qs.length ≤ 300 * 300 := Nat.le_trans ql (Nat.mul_le_mul_left 300 (by omega)); omega, ?_⟩
      have kp : Kp P H6 (upd H6 P (.lst (us ++ ws'))) := Kp.set
      have tp := kp.tups hP6
      refine ⟨_, us ++ ws', qs ++ ((sel ps x.1).filter fun o => decide (o < m)).map fun o => ((o, m) : Prs), rfl, upd_same, ?_, ?_, fun y hy => ?_, fun b o e => kp _ _ (s6 _ _ (s5 _ _ e)) (ne_of_none e hP)⟩
      · rw [List.map_append]
        exact Dats.append (Dats.keep (fun a xs h => tp _ _ (s6.tups _ _ h)) _ (imms_map _ imm_pD _) du) (Dats.keep tp _ (imms_map _ imm_pD _) d6')
      · rw [List.length_append, List.length_map]; omega
      · rcases List.mem_append.mp hy with hy | hy
        · exact qok y hy
        · obtain ⟨o, ho, rfl⟩ := List.mem_map.mp hy
          exact ⟨sel_mem (List.mem_filter.mp ho).1, mok⟩
    · rintro σ H5 ⟨x1, us, qs, rfl, hP5, du, ql, qok, s5⟩
      have S5 := S3.keep s5
      have ul : us.length = qs.length := by rw [du.length, List.length_map]
      refine ⟨_, rfl, (by show 0 ≤ sizeLine; decide), fun q hq => ?_⟩
      have s6 := same_new (o := HO.lst []) hq
      have s56 := s5.trans s6
      refine ⟨_, _, dat_list (ds := qs.map pD) (s6 _ _ hP5) (Dats.keep s6.tups _ (imms_map _ imm_pD _) du), dat_list (ds := ([] : List Prs).map pD) upd_same (by simp only [List.map_nil, Dats]), shaped_prs _, shaped_prs _, _, rfl, ?_⟩
      rw [show (if false = true then !PyData.eqv (.list (qs.map pD)) (.list (([] : List Prs).map pD)) else PyData.eqv (.list (qs.map pD)) (.list (([] : List Prs).map pD))) = decide (qs = []) by rw [if_neg (by decide), eqv_list pD eqv_pD]]
      refine ite2 (fun _ => ?_) (fun w => ?_)
      · exact ⟨_, rfl, k t x _ (s56 _ _ ht3) (S3.keep s56) (k03.trans (.of_same s56))⟩
      have w : qs ≠ [] := by simpa using w
      have qpos : 0 < qs.length := List.length_pos_iff.mpr w
      have z0 : 0 ≤ wh % (us.length : Int) := Int.emod_nonneg _ (by omega)
      have z1 : wh % (us.length : Int) < us.length := Int.emod_lt_of_pos _ (by omega)
      have P6 : PrsAt (upd H5 q (HO.lst [])) P qs := PrsAt.same ⟨_, hP5, du⟩ s6
      obtain ⟨vq, tq, y, hq6, atq, htq, eqq⟩ := prs_nat P6 z0 (by omega)
      have eu : vq = us := by
        have := (s6 _ _ hP5).symm.trans hq6
        injection this with this
        injection this with this
        exact this.symm
      subst eu
      obtain ⟨⟨y0, y1⟩, ⟨y2, y3⟩⟩ := qok y (List.mem_of_getElem? eqq)
      refine ⟨_, rfl, _, rfl, _, rfl, P, _, rfl, .inl (SqL.of hq6), _, _, rfl, rfl, by omega, _, _, _, _, rfl, rfl, SqL.of hq6, atq, ?_⟩
      refine ⟨tq, _, rfl, SqT.of htq, rfl, _, _, rfl, _, _, rfl, rfl, ?_⟩
      have C6 := C3.same s56
      obtain ⟨vc, t1, a1, hc5, at1, ht1', _⟩ := prs_nat C6 y0 y1
      obtain ⟨vc', t2, a2, hc5', at2, ht2', _⟩ := prs_nat C6 y2 y3
      refine ⟨_, rfl, _, rfl, _, _, _, _, rfl, rfl, SqL.of hc5, at1, _, rfl, _, rfl, _, _, _, _, rfl, rfl, SqL.of hc5', at2, _, _, _, _, rfl, rfl, SqT.of ht1', SqT.of ht2', by simp, (by show 4 ≤ sizeLine; decide), fun z => by simp at z, fun _ p hp => ?_⟩
      have s7 := same_new (o := HO.tup ([V.int a1.1, V.int a1.2] ++ [V.int a2.1, V.int a2.2])) hp
      exact k p (a1.1, a1.2, a2.1, a2.2) _ upd_same (S3.keep (s56.trans s7)) (k03.trans (.of_same (s56.trans s7)))
/-! ### what is asked -/
theorem dat_bools {H : Hp} {a : Addr} {bs : List Bool} (h : H a = some (.lst (bs.map V.bl))) : Dat H (.ref a) (.list (bs.map PyData.bool)) := by
  refine dat_list h ?_
  clear h
  induction bs with
  | nil => simp only [List.map_nil, Dats]
  | cons b bs ih => simp only [List.map_cons, Dats, Dat]; exact ⟨trivial, ih⟩
def spAskedW (K : PySem.W.Frag) : Sp := fun vs H Q _ => ∃ (a t u : Addr) (ws : List Tch) (x y : Nt), vs = [.ref a, .ref t, .ref u] ∧ WebAt H a ws ∧ ws.length ≤ 300 ∧ H t = some (.tup (nV x)) ∧ H u = some (.tup (nV y)) ∧
  (StrP ws x → WantP ws y → ∀ (q : Addr) (H' : Hp), H' q = some (.lst [.bl (mB x y), .bl false]) → Same H H' → Q (.ref q) H') ∧ (¬ (StrP ws x ∧ WantP ws y) → ∀ (q : Addr) (H' : Hp), H' q = some (.lst [.non, .bl true]) → Same H H' → Q (.ref q) H')
theorem ok_askedW {f : Addr} {fd : FuncData} (F : Fun K "_law_asked" "_law_asked" s_Lasked f fd) {C_NoNote C_NoteError C_Held C_NoCut C_NoForm C_NoHand C_NoneYet C_NoNumber C_NoText C_NoOrder C_NoPlace C_Over C_RowError C_TooMany : Addr} (X_NoNote : Xr K mg C_NoNote "NoNote") (O_NoteError : Xo K mg C_NoNote C_NoteError "NoteError" true) (O_Held : Xo K mg C_NoNote C_Held "Held" false) (O_NoCut : Xo K mg C_NoNote C_NoCut "NoCut" false) (O_NoForm : Xo K mg C_NoNote C_NoForm "NoForm" false) (O_NoHand : Xo K mg C_NoNote C_NoHand "NoHand" false) (O_NoneYet : Xo K mg C_NoNote C_NoneYet "NoneYet" false) (O_NoNumber : Xo K mg C_NoNote C_NoNumber "NoNumber" false) (O_NoText : Xo K mg C_NoNote C_NoText "NoText" false) (O_NoOrder : Xo K mg C_NoNote C_NoOrder "NoOrder" false) (O_NoPlace : Xo K mg C_NoNote C_NoPlace "NoPlace" false) (O_Over : Xo K mg C_NoNote C_Over "Over" false) (O_RowError : Xo K mg C_NoNote C_RowError "RowError" false) (O_TooMany : Xo K mg C_NoNote C_TooMany "TooMany" false)  (F_meets_want : FnAtX P w K mg base 5 "meets_want" ["web", "note", "want"] (spMeetsWant C_NoNote K)) (Bt : Blt mg) : FnOk P w K mg base CX0 6 f fd ["web", "note", "want"] (spAskedW K) := by
  refine F.ok sc_Lasked (fun vs H Q E h => ?_) (fun cdv A outer s H vs Q E hr h => ?_)
  · obtain ⟨a, t, u, ws, x, y, rfl, _⟩ := h
    rfl
  · obtain ⟨a, t, u, ws, x, y, rfl, W, wl, ht, hu', k1, k2⟩ := h
    have hu64 := hr.units
    refine ⟨_, (pss_cons (ps_set (i := 3) sc_Lasked.nd rfl (Or.inl rfl) pe_non)
      (pss_cons (ps_set (i := 4) sc_Lasked.nd rfl (Or.inl rfl) (pe_lst pa_nil))
      (pss_cons (ps_try (i := 5) rfl rfl rfl rfl sc_Lasked.nd rfl rfl (by rfl) O_NoteError.bd O_NoteError.hd (fun _ _ _ _ hR => (pss_one (ps_set (i := 3) sc_Lasked.nd rfl (Or.inl rfl) (pe_fnX F_meets_want rfl hR (hr.mono (by decide)) (by rfl) (pa_cons (pv 0) (pa_cons (pv 1) (pa_cons (pv 2) pa_nil))))))) (fun _ => (pss_one (ps_set (i := 4) sc_Lasked.nd rfl (Or.inl rfl) (pe_lst (pa_cons (pe_and (pe_callB (call_isX (K := K) (c := .ref C_NoNote) (cv := .ref C_NoNote) rfl (fun _ h => h)) (by rfl) Bt.b_isinstance bt_isinstance (pa_cons (pv 5) (pa_cons (pe_glob (v := .ref C_NoNote) (by rfl) X_NoNote.bd rfl) pa_nil))) (pe_one (pe_callB (call_isX (K := K) (c := .type "ValueError") (cv := .ty "ValueError") rfl (fun _ h => h)) (by rfl) Bt.b_isinstance bt_isinstance (pa_cons (pv 5) (pa_cons (pe_bltn (v := .ty "ValueError") (by rfl) Bt.b_ValueError bt_ValueError rfl) pa_nil))))) (pa_cons (pe_callB (call_isXT (K := K) rfl) (by rfl) Bt.b_isinstance bt_isinstance (pa_cons (pv 5) (pa_cons (pe_tup (pa_cons (pe_glob (v := .ref C_Held) (by rfl) O_Held.bd rfl) (pa_cons (pe_glob (v := .ref C_NoCut) (by rfl) O_NoCut.bd rfl) (pa_cons (pe_glob (v := .ref C_NoForm) (by rfl) O_NoForm.bd rfl) (pa_cons (pe_glob (v := .ref C_NoHand) (by rfl) O_NoHand.bd rfl) (pa_cons (pe_glob (v := .ref C_NoneYet) (by rfl) O_NoneYet.bd rfl) (pa_cons (pe_glob (v := .ref C_NoNumber) (by rfl) O_NoNumber.bd rfl) (pa_cons (pe_glob (v := .ref C_NoText) (by rfl) O_NoText.bd rfl) pa_nil)))))))) pa_nil))) (pa_cons (pe_callB (call_isXT (K := K) rfl) (by rfl) Bt.b_isinstance bt_isinstance (pa_cons (pv 5) (pa_cons (pe_tup (pa_cons (pe_glob (v := .ref C_NoOrder) (by rfl) O_NoOrder.bd rfl) (pa_cons (pe_glob (v := .ref C_NoPlace) (by rfl) O_NoPlace.bd rfl) (pa_cons (pe_glob (v := .ref C_Over) (by rfl) O_Over.bd rfl) (pa_cons (pe_glob (v := .ref C_RowError) (by rfl) O_RowError.bd rfl) (pa_cons (pe_glob (v := .ref C_TooMany) (by rfl) O_TooMany.bd rfl) pa_nil)))))) pa_nil))) pa_nil))))))))
      (pss_one (ps_ret (pe_lst (pa_cons (pv 3) (pa_cons (pe_cmpR (op_eqDK (K := K) rfl hu64) (pv 4) (pe_lst (pa_cons pe_bl (pa_cons pe_bl (pa_cons pe_bl pa_nil)))) (nomark _)) pa_nil)))))))), ?_⟩
    refine ⟨(by show 0 ≤ sizeLine; decide), fun m hm => ?_⟩
    have sm := same_new (o := HO.lst []) hm
    refine ⟨_, rfl, _, rfl, _, rfl, a, t, u, ws, x, y, rfl, W.same sm, wl, sm _ _ ht, sm _ _ hu', fun st wt H1 s1 => ?_, fun no H1 s1 => ?_⟩
    · -- it is told
      refine ⟨_, rfl, _, rfl, (by show 3 ≤ sizeLine; decide), fun p hp' => ?_⟩
      have sm2 := same_new (o := HO.lst [V.bl true, V.bl false, V.bl false]) hp'
      refine ⟨_, _, dat_bools (bs := []) (sm2 _ _ (s1 _ _ upd_same)), dat_bools (bs := [true, false, false]) upd_same, rfl, rfl, (by show 2 ≤ sizeLine; decide), fun r hr' => ?_⟩
      exact k1 st wt r _ upd_same (((sm.trans s1).trans sm2).trans (same_new hr'))
    · -- it is refused
      refine ⟨_, rfl, O_NoteError.pr.sub, fun e he => ?_⟩
      have sme := same_new (o := XO C_NoNote none e) he
      refine ⟨_, rfl, e, _, true, rfl, upd_same, X_NoNote.xc, kit_same, true, rfl, ?_⟩
      refine iteT ?_
      refine ⟨_, rfl, e, _, true, rfl, upd_same, X_NoNote.xc, kit_value X_NoNote.ve, ?_⟩
      refine ⟨_, rfl, (by show 7 ≤ sizeLine; decide), fun t1 ht1 => ?_⟩
      have smt1 := same_new (o := HO.tup [V.ref C_Held, V.ref C_NoCut, V.ref C_NoForm, V.ref C_NoHand, V.ref C_NoneYet, V.ref C_NoNumber, V.ref C_NoText]) ht1
      refine ⟨e, t1, _, [C_Held, C_NoCut, C_NoForm, C_NoHand, C_NoneYet, C_NoNumber, C_NoText], false, rfl, smt1 _ _ upd_same, X_NoNote.xc, upd_same, kitAny_none (by
        intro D hD
        simp only [List.mem_cons, List.not_mem_nil, or_false] at hD
        rcases hD with rfl | rfl | rfl | rfl | rfl | rfl | rfl
        · exact O_Held.kit
        · exact O_NoCut.kit
        · exact O_NoForm.kit
        · exact O_NoHand.kit
        · exact O_NoneYet.kit
        · exact O_NoNumber.kit
        · exact O_NoText.kit), ?_⟩
      refine ⟨_, rfl, (by show 5 ≤ sizeLine; decide), fun t2 ht2 => ?_⟩
      have smt2 := same_new (o := HO.tup [V.ref C_NoOrder, V.ref C_NoPlace, V.ref C_Over, V.ref C_RowError, V.ref C_TooMany]) ht2
      refine ⟨e, t2, _, [C_NoOrder, C_NoPlace, C_Over, C_RowError, C_TooMany], false, rfl, smt2 _ _ (smt1 _ _ upd_same), X_NoNote.xc, upd_same, kitAny_none (by
        intro D hD
        simp only [List.mem_cons, List.not_mem_nil, or_false] at hD
        rcases hD with rfl | rfl | rfl | rfl | rfl
        · exact O_NoOrder.kit
        · exact O_NoPlace.kit
        · exact O_Over.kit
        · exact O_RowError.kit
        · exact O_TooMany.kit), ?_⟩
      refine ⟨(by show 3 ≤ sizeLine; decide), fun q hq => ?_⟩
      have sm3 := same_new (o := HO.lst [V.bl true, V.bl false, V.bl false]) hq
      refine ⟨_, rfl, _, rfl, (by show 3 ≤ sizeLine; decide), fun p hp' => ?_⟩
      have sm4 := same_new (o := HO.lst [V.bl true, V.bl false, V.bl false]) hp'
      refine ⟨_, _, dat_bools (bs := [true, false, false]) (sm4 _ _ upd_same), dat_bools (bs := [true, false, false]) upd_same, rfl, rfl, (by show 2 ≤ sizeLine; decide), fun r hr' => ?_⟩
      exact k2 no r _ upd_same (((((((sm.trans s1).trans sme).trans smt1).trans smt2).trans sm3).trans sm4).trans (same_new hr'))

/-! ### the law itself -/
theorem eqv_web_same (ws : List Tch) : PyData.eqv (.list (ws.map tD)) (.list (ws.map tD)) = true := by rw [eqv_list tD eqv_tD]; simp
def spLaw (K : PySem.W.Frag) : Sp := fun vs H Q _ => ∃ (a : Addr) (ns : List Int), vs = [.ref a] ∧ SqL K H a (ns.map V.int) ∧ ns.length ≤ 63 ∧ ∀ H', Q (.bl true) H'
/-- the names of ok_law as they stand -/
def lSt (a0 : Addr) (a1 : Addr) (a2 : Addr) (a3 : Addr) (a4 : Addr) (x5 : Option V) (x6 : Option V) (x7 : Option V) (x8 : Option V) (x9 : Option V) (x10 : Option V) (x11 : Option V) : St := [some (.ref a0), some (.ref a1), some (.ref a2), some (.ref a3), some (.ref a4), x5, x6, x7, x8, x9, x10, x11]
theorem ok_law {f : Addr} {fd : FuncData} (F : Fun K "law" "law" s_law f fd) (F_Lspring : FnAt P w K mg base 1 "_law_spring" ["script"] (spSpring K)) (F_Ldraw : FnAt P w K mg base 1 "_law_draw" ["spring", "many"] (spDraw K)) (F_Lweb : FnAt P w K mg base 2 "_law_web" ["spring", "most"] (spWeb K)) (F_Lcalls : FnAt P w K mg base 1 "_law_calls" ["web"] (spCalls K)) (F_Lpick : FnAt P w K mg base 2 "_law_pick" ["spring", "web", "calls", "only"] (spPick K)) (F_Lnear : FnAt P w K mg base 2 "_law_near" ["spring", "calls", "want"] (spNear K)) (F_Lstrange : FnAt P w K mg base 2 "_law_strange" ["spring", "note"] (spStrange K)) (F_Lfree : FnAt P w K mg base 2 "_law_free" ["spring", "calls"] (spFree K)) (F_Lasked : FnAt P w K mg base 6 "_law_asked" ["web", "note", "want"] (spAskedW K)) (F_Lends : FnAt P w K mg base 1 "_law_ends" ["calls", "note"] (spEnds K)) (F_Lis_want : FnAt P w K mg base 2 "_law_is_want" ["web", "calls", "note"] (spLwant K)) (Bt : Blt mg) : FnOk P w K mg base CX0 7 f fd ["script"] (spLaw K) := by
  refine F.ok sc_law (fun vs H Q E h => ?_) (fun cdv A outer s H vs Q E hr h => ?_)
  · obtain ⟨a, ns, rfl, _⟩ := h
    rfl
  · obtain ⟨sa, sns, rfl, hS, hlen, k⟩ := h
    have hu64 := hr.units
    refine ⟨_, (pss_cons (ps_set (i := 1) sc_law.nd rfl (Or.inr rfl) (pe_fn F_Lspring (hr.mono (by decide)) (by rfl) (pa_cons (pv 0) pa_nil)))
      (pss_cons (ps_setC (i := 2) rfl sc_law.nd rfl (Or.inl rfl) (N := ["again", "spring"]) (own := ["again"]) (caps := [1]) (CompScope.of (by kernel_rfl)) (pi_range1 (by rfl) Bt.b_range (pa_cons (pe_op op_add pe_int (pe_callB (call_min2 rfl) (by rfl) Bt.b_min bt_min (pa_cons (pe_callB (call_len_seqK (K := K) rfl) (by rfl) Bt.b_len bt_len (pa_cons (pv 0) pa_nil)) (pa_cons pe_int pa_nil)))) pa_nil)) (fun _ _ _ _ => (pg_name (i := 0) (show List.Nodup (["again", "spring"] : List Str) by decide +kernel) rfl (Or.inl rfl))) (fun _ _ _ _ => pts_nil) (fun _ _ _ _ => (pe_fn F_Ldraw (hr.mono (by decide)) (by rfl) (pa_cons (pv 1) (pa_cons pe_int pa_nil)))))
      (pss_cons (ps_set (i := 3) sc_law.nd rfl (Or.inl rfl) (pe_fn F_Lweb (hr.mono (by decide)) (by rfl) (pa_cons (pv 1) (pa_cons pe_int pa_nil))))
      (pss_cons (ps_set (i := 4) sc_law.nd rfl (Or.inl rfl) (pe_fn F_Lcalls (hr.mono (by decide)) (by rfl) (pa_cons (pv 3) pa_nil)))
      (pss_cons (ps_for PassesOwn.never rfl (pi_listK (K := K) rfl (pv 2)) (pg_name (i := 5) sc_law.nd rfl (Or.inl rfl))
      (pss_cons (ps_set (i := 6) sc_law.nd rfl (Or.inl rfl) (pe_fn F_Lpick (hr.mono (by decide)) (by rfl) (pa_cons (pv 1) (pa_cons (pv 3) (pa_cons (pv 4) (pa_cons (pe_callTy call_int1 (by rfl) Bt.b_int bt_int (pa_cons (pe_cmpR op_ne (pv 5) pe_int (nomark _)) pa_nil)) pa_nil))))))
      (pss_cons (ps_set (i := 7) sc_law.nd rfl (Or.inl rfl) (pe_fn F_Lnear (hr.mono (by decide)) (by rfl) (pa_cons (pv 1) (pa_cons (pv 4) (pa_cons (pv 6) pa_nil)))))
      (pss_cons (ps_if (pt_cmpR op_eq (pe_op op_mod (pv 5) pe_int) pe_int (nomark _)) (pss_one (ps_set (i := 7) sc_law.nd rfl (Or.inl rfl) (pe_fn F_Lpick (hr.mono (by decide)) (by rfl) (pa_cons (pv 1) (pa_cons (pv 3) (pa_cons (pv 4) (pa_cons pe_int pa_nil))))))) pss_nil)
      (pss_cons (ps_if (PW.pt (pw_or (pt_cmpR op_eq (pe_op op_mod (pv 5) pe_int) pe_int (nomark _)) (pw_or1 (pt_cmpR op_eq (pe_op op_mod (pv 5) pe_int) pe_int (nomark _))))) (pss_one (ps_set (i := 7) sc_law.nd rfl (Or.inl rfl) (pe_fn F_Lstrange (hr.mono (by decide)) (by rfl) (pa_cons (pv 1) (pa_cons (pv 7) pa_nil))))) pss_nil)
      (pss_cons (ps_if (PW.pt (pw_or (pt_cmpR op_eq (pe_op op_mod (pv 5) pe_int) pe_int (nomark _)) (pw_or1 (pt_cmpR op_eq (pe_op op_mod (pv 5) pe_int) pe_int (nomark _))))) (pss_one (ps_set (i := 6) sc_law.nd rfl (Or.inl rfl) (pe_fn F_Lstrange (hr.mono (by decide)) (by rfl) (pa_cons (pv 1) (pa_cons (pv 6) pa_nil))))) pss_nil)
      (pss_cons (ps_if (pt_cmpR op_eq (pe_op op_mod (pv 5) pe_int) pe_int (nomark _)) (pss_one (ps_set (i := 7) sc_law.nd rfl (Or.inl rfl) (pe_fn F_Lfree (hr.mono (by decide)) (by rfl) (pa_cons (pv 1) (pa_cons (pv 4) pa_nil))))) pss_nil)
      (pss_cons (ps_if (PW.pt (pw_or (pt_cmpR op_eq (pe_op op_mod (pv 5) pe_int) pe_int (nomark _)) (pw_or1 (pt_cmpR op_eq (pv 5) pe_int (nomark _))))) (pss_one (ps_set (i := 6) sc_law.nd rfl (Or.inl rfl) (pe_fn F_Lfree (hr.mono (by decide)) (by rfl) (pa_cons (pv 1) (pa_cons (pv 4) pa_nil))))) pss_nil)
      (pss_cons (ps_set (i := 8) sc_law.nd rfl (Or.inl rfl) (pe_callTy (call_list_ofK (K := K) rfl) (by rfl) Bt.b_list bt_list (pa_cons (pv 3) pa_nil)))
      (pss_cons (ps_set (i := 9) sc_law.nd rfl (Or.inl rfl) (pe_fn F_Lasked (hr.mono (by decide)) (by rfl) (pa_cons (pv 8) (pa_cons (pv 7) (pa_cons (pv 6) pa_nil)))))
      (pss_cons (ps_set (i := 10) sc_law.nd rfl (Or.inl rfl) (pe_and (pe_cmpR op_eq (pe_ix (ix_tupK (K := K) rfl) (pv 7) pe_int (fun _ _ => rfl)) (pe_ix (ix_tupK (K := K) rfl) (pv 6) pe_int (fun _ _ => rfl)) (nomark _)) (pe_and (pe_cmpR op_eq (pe_ix (ix_tupK (K := K) rfl) (pv 7) pe_int (fun _ _ => rfl)) (pe_ix (ix_tupK (K := K) rfl) (pv 6) pe_int (fun _ _ => rfl)) (nomark _)) (pe_and (pe_cmpR op_ge (pe_ix (ix_tupK (K := K) rfl) (pv 7) pe_int (fun _ _ => rfl)) (pe_ix (ix_tupK (K := K) rfl) (pv 6) pe_int (fun _ _ => rfl)) (nomark _)) (pe_one (pe_cmpR op_le (pe_ix (ix_tupK (K := K) rfl) (pv 7) pe_int (fun _ _ => rfl)) (pe_ix (ix_tupK (K := K) rfl) (pv 6) pe_int (fun _ _ => rfl)) (nomark _)))))))
      (pss_cons (ps_set (i := 11) sc_law.nd rfl (Or.inl rfl) (pe_and (pe_cmpR op_notN (pe_fn F_Lends (hr.mono (by decide)) (by rfl) (pa_cons (pv 4) (pa_cons (pv 7) pa_nil))) pe_non (nomark _)) (pe_one (pe_fn F_Lis_want (hr.mono (by decide)) (by rfl) (pa_cons (pv 3) (pa_cons (pv 4) (pa_cons (pv 6) pa_nil)))))))
      (pss_cons (ps_if (PW.pt (pw_or (PW.pt (pw_and (pt_val (pv 11)) (pw_and1 (PW.pt (pw_or (pt_not (pt_val (pe_callB (call_isiK (K := K) (cv := .ty "bool") (c := .type "bool") rfl rfl) (by rfl) Bt.b_isinstance bt_isinstance (pa_cons (pe_ix (ix_listK (K := K) rfl) (pv 9) pe_int (fun _ _ => rfl)) (pa_cons (pe_bltn (v := .ty "bool") (by rfl) Bt.b_bool bt_bool rfl) pa_nil))))) (pw_or1 (pt_cmpR op_ne (pe_ix (ix_listK (K := K) rfl) (pv 9) pe_int (fun _ _ => rfl)) (pv 10) (nomark _)))))))) (pw_or1 (pt_cmpR (op_neDK (K := K) rfl hu64) (pv 8) (pv 3) (nomark _))))) (pss_one (ps_ret pe_bl)) pss_nil)
      (pss_one (ps_if (PW.pt (pw_and (pt_not (pt_val (pv 11))) (pw_and1 (pt_cmpR (op_neDK (K := K) rfl hu64) (pv 9) (pe_lst (pa_cons pe_non (pa_cons pe_bl pa_nil))) (nomark _))))) (pss_one (ps_ret pe_bl)) pss_nil)))))))))))))))
      (pss_one (ps_ret pe_bl))))))), ?_⟩
    refine seq_one (fun R g => ?_)
    refine ⟨_, rfl, sa, sns, rfl, hS, hlen, fun r H1 hr1 S1 sm1 => ?_⟩
    refine g _ _ ?_
    -- shapes
    refine seq_one (fun R g => ?_)
    refine ⟨_, rfl, sa, _, rfl, .inl (sm1.seq hS), _, _, rfl, _, _, rfl, rfl, _, rfl, ?_, ?_, fun D hD => ?_⟩
    · rw [List.length_map]; split <;> omega
    · rw [List.length_map]; split <;> omega
    have few : ((1 + (if (8 : Int) < ((sns.map V.int).length : Int) then 8 else ((sns.map V.int).length : Int))).toNat : Nat) ≤ 9 := by rw [List.length_map]; split <;> omega
    refine comp_sprR hD S1 (by omega) (fun i H2 F hi k2 S2 kF => ?_) (fun H2 zs zl e2 k2 S2 => ?_)
    · exact ⟨_, rfl, r, 32, rfl, S2, by decide, by decide, fun z H3 z0 z1 S3 k3 => kF _ H3 k3 S3⟩
    have nDr := S1.ne hD
    refine g _ _ ?_
    -- web, calls
    refine seq_one (fun R g => ?_)
    refine ⟨_, rfl, r, 300, rfl, S2, by decide, by decide, fun a ws H3 ha0 W3 ok wl S3 k3 => ?_⟩
    refine g _ _ ?_
    have nar := S2.ne ha0
    refine seq_one (fun R g => ?_)
    refine ⟨_, rfl, a, ws, rfl, W3, ok, wl, fun c H4 hc0 C4 s4 => ?_⟩
    refine g _ _ ?_
    have ncr := S3.ne hc0
    have nm300 : (nm ws).length ≤ 300 := by rw [nm_length]; exact wl
    have e4 := s4 _ _ (k3 _ _ e2 nDr)
    have st4 : SpringOk H4 r ∧ WebAt H4 a ws ∧ PrsAt H4 c (nm ws) ∧ H4 D = some (.lst (zs.map V.int)) := ⟨S3.keep s4, W3.same s4, C4, e4⟩
    refine ⟨_, rfl, D, rfl, ⟨_, SqL.of e4⟩, ?_⟩
    have keepK : ∀ {H5 H6 : Hp}, SpringOk H5 r ∧ WebAt H5 a ws ∧ PrsAt H5 c (nm ws) ∧ H5 D = some (.lst (zs.map V.int)) → SpringOk H6 r → Kp r H5 H6 → SpringOk H6 r ∧ WebAt H6 a ws ∧ PrsAt H6 c (nm ws) ∧ H6 D = some (.lst (zs.map V.int)) := fun ⟨a1, a2, a3, a4⟩ b kk => ⟨b, a2.spr a1 kk nar, a3.spr a1 kk ncr, kk _ _ a4 nDr⟩
    have keepS : ∀ {H5 H6 : Hp}, SpringOk H5 r ∧ WebAt H5 a ws ∧ PrsAt H5 c (nm ws) ∧ H5 D = some (.lst (zs.map V.int)) → Same H5 H6 → SpringOk H6 r ∧ WebAt H6 a ws ∧ PrsAt H6 c (nm ws) ∧ H6 D = some (.lst (zs.map V.int)) := fun ⟨a1, a2, a3, a4⟩ kk => ⟨a1.keep kk, a2.same kk, a3.same kk, kk _ _ a4⟩
    refine for_list (K := K) (a := D) (xs := zs.map V.int) (fun i σ H5 => ∃ (x1 x2 x3 x4 x5 x6 x7 : Option V), σ = (lSt sa r D a c x1 x2 x3 x4 x5 x6 x7) ∧ SpringOk H5 r ∧ WebAt H5 a ws ∧ PrsAt H5 c (nm ws) ∧ H5 D = some (.lst (zs.map V.int)))
      ⟨none, none, none, none, none, none, none, rfl, st4⟩ (fun i σ H5 _ ⟨_, _, _, _, _, _, _, _, _, _, _, e⟩ => SqL.of e) ?_ ?_
    · rintro i v σ H5 hi ⟨x1, x2, x3, x4, x5, x6, x7, rfl, st5⟩
      obtain ⟨sh, rfl⟩ : ∃ sh, v = V.int sh := by
        rw [List.getElem?_map] at hi
        cases e : zs[i]? with
        | none => rw [e] at hi; cases hi
        | some z => rw [e] at hi; exact ⟨z, (Option.some.inj hi).symm⟩
      -- want
      refine seq_one (fun R g => ?_)
      refine ⟨_, rfl, _, rfl, _, rfl, _, rfl, rfl, .inr ⟨_, rfl, r, a, c, ws, _, rfl, st5.1, st5.2.1, nar, st5.2.2.1, ncr, wl, fun tw y H6 htw S6 k6 => ?_⟩⟩
      refine g _ _ ?_
      have st6 := keepK st5 S6 k6
      -- note
      refine seq_one (fun R g => ?_)
      refine ⟨_, rfl, _, rfl, _, rfl, r, c, tw, nm ws, y, rfl, st6.1, st6.2.2.1, ncr, nm300, htw, fun tn x H7 htn S7 k7 => ?_⟩
      refine g _ _ ?_
      have st7 := keepK st6 S7 k7
      have htw7 := st6.1.tups k7 _ _ htw
      dsimp only
      -- the note picked anew
      refine seq_cps (fun σ H8 => ∃ (tn : Addr) (x : Nt), σ = (lSt sa r D a c (some (.int sh)) (some (.ref tw)) (some (.ref tn)) x4 x5 x6 x7) ∧ (SpringOk H8 r ∧ WebAt H8 a ws ∧ PrsAt H8 c (nm ws) ∧ H8 D = some (.lst (zs.map V.int))) ∧ H8 tn = some (.tup (nV x)) ∧ H8 tw = some (.tup (nV y))) (fun D' hD' _ => ?_) ?_
      · refine ⟨_, rfl, _, _, rfl, rfl, (by show (0 : Int) < 2; decide), rfl, _, rfl, ?_⟩
        refine ite2 (fun _ => ?_) (fun _ => hD' _ _ ⟨tn, x, rfl, st7, htn, htw7⟩)
        exact ⟨_, rfl, _, rfl, _, rfl, r, a, c, ws, 0, rfl, st7.1, st7.2.1, nar, st7.2.2.1, ncr, wl, fun tn' x' H8 ht8 S8 k8 => hD' _ _ ⟨tn', x', rfl, keepK st7 S8 k8, ht8, st7.1.tups k8 _ _ htw7⟩⟩
      clear htn
      rintro σ H8 ⟨tn, x, rfl, st8, htn8, htw8⟩
      -- the note made strange
      refine seq_cps (fun σ H9 => ∃ (tn : Addr) (x : Nt), σ = (lSt sa r D a c (some (.int sh)) (some (.ref tw)) (some (.ref tn)) x4 x5 x6 x7) ∧ (SpringOk H9 r ∧ WebAt H9 a ws ∧ PrsAt H9 c (nm ws) ∧ H9 D = some (.lst (zs.map V.int))) ∧ H9 tn = some (.tup (nV x)) ∧ H9 tw = some (.tup (nV y))) (fun D' hD' _ => ?_) ?_
      · refine ⟨_, rfl, _, _, rfl, rfl, (by show (0 : Int) < 8; decide), rfl, _, rfl, ?_⟩
        have body : ∀ {D' : Ends}, (∀ σ' H', (∃ (tn : Addr) (x : Nt), σ' = (lSt sa r D a c (some (.int sh)) (some (.ref tw)) (some (.ref tn)) x4 x5 x6 x7) ∧ (SpringOk H' r ∧ WebAt H' a ws ∧ PrsAt H' c (nm ws) ∧ H' D = some (.lst (zs.map V.int))) ∧ H' tn = some (.tup (nV x)) ∧ H' tw = some (.tup (nV y))) → D'.nx σ' H') → True := fun _ => trivial
        refine orGoal ?_ (fun _ b => ⟨_, rfl, _, _, rfl, rfl, (by show (0 : Int) < 16; decide), rfl, _, rfl, ite2 (fun _ => b) (fun _ => hD' _ _ ⟨tn, x, rfl, st8, htn8, htw8⟩)⟩)
        exact ⟨_, rfl, _, rfl, r, tn, x, rfl, st8.1, htn8, fun tn' x' H9 ht9 S9 k9 => hD' _ _ ⟨tn', x', rfl, keepK st8 S9 k9, ht9, st8.1.tups k9 _ _ htw8⟩⟩
      clear htn8
      rintro σ H9 ⟨tn, x, rfl, st9, htn9, htw9⟩
      -- the want made strange
      refine seq_cps (fun σ H10 => ∃ (tw : Addr) (y : Nt), σ = (lSt sa r D a c (some (.int sh)) (some (.ref tw)) (some (.ref tn)) x4 x5 x6 x7) ∧ (SpringOk H10 r ∧ WebAt H10 a ws ∧ PrsAt H10 c (nm ws) ∧ H10 D = some (.lst (zs.map V.int))) ∧ H10 tn = some (.tup (nV x)) ∧ H10 tw = some (.tup (nV y))) (fun D' hD' _ => ?_) ?_
      · refine ⟨_, rfl, _, _, rfl, rfl, (by show (0 : Int) < 8; decide), rfl, _, rfl, ?_⟩
        refine orGoal ?_ (fun _ b => ⟨_, rfl, _, _, rfl, rfl, (by show (0 : Int) < 16; decide), rfl, _, rfl, ite2 (fun _ => b) (fun _ => hD' _ _ ⟨tw, y, rfl, st9, htn9, htw9⟩)⟩)
        exact ⟨_, rfl, _, rfl, r, tw, y, rfl, st9.1, htw9, fun tw' y' H10 ht10 S10 k10 => hD' _ _ ⟨tw', y', rfl, keepK st9 S10 k10, st9.1.tups k10 _ _ htn9, ht10⟩⟩
      clear htw htw7 htw8 htw9
      rintro σ H10 ⟨tw, y, rfl, st10, htn10, htw10⟩
      -- any note
      refine seq_cps (fun σ H11 => ∃ (tn : Addr) (x : Nt), σ = (lSt sa r D a c (some (.int sh)) (some (.ref tw)) (some (.ref tn)) x4 x5 x6 x7) ∧ (SpringOk H11 r ∧ WebAt H11 a ws ∧ PrsAt H11 c (nm ws) ∧ H11 D = some (.lst (zs.map V.int))) ∧ H11 tn = some (.tup (nV x)) ∧ H11 tw = some (.tup (nV y))) (fun D' hD' _ => ?_) ?_
      · refine ⟨_, rfl, _, _, rfl, rfl, (by show (0 : Int) < 16; decide), rfl, _, rfl, ?_⟩
        refine ite2 (fun _ => ?_) (fun _ => hD' _ _ ⟨tn, x, rfl, st10, htn10, htw10⟩)
        exact ⟨_, rfl, _, rfl, r, c, nm ws, rfl, st10.1, st10.2.2.1, ncr, nm300, fun tn' x' H11 ht11 S11 k11 => hD' _ _ ⟨tn', x', rfl, keepK st10 S11 k11, ht11, st10.1.tups k11 _ _ htw10⟩⟩
      clear htn9 htn10
      rintro σ H11 ⟨tn, x, rfl, st11, htn11, htw11⟩
      -- any want
      refine seq_cps (fun σ H12 => ∃ (tw : Addr) (y : Nt), σ = (lSt sa r D a c (some (.int sh)) (some (.ref tw)) (some (.ref tn)) x4 x5 x6 x7) ∧ (SpringOk H12 r ∧ WebAt H12 a ws ∧ PrsAt H12 c (nm ws) ∧ H12 D = some (.lst (zs.map V.int))) ∧ H12 tn = some (.tup (nV x)) ∧ H12 tw = some (.tup (nV y))) (fun D' hD' _ => ?_) ?_
      · refine ⟨_, rfl, _, _, rfl, rfl, (by show (0 : Int) < 16; decide), rfl, _, rfl, ?_⟩
        refine orGoal ?_ (fun _ b => ⟨_, rfl, rfl, _, rfl, ite2 (fun _ => b) (fun _ => hD' _ _ ⟨tw, y, rfl, st11, htn11, htw11⟩)⟩)
        exact ⟨_, rfl, _, rfl, r, c, nm ws, rfl, st11.1, st11.2.2.1, ncr, nm300, fun tw' y' H12 ht12 S12 k12 => hD' _ _ ⟨tw', y', rfl, keepK st11 S12 k12, st11.1.tups k12 _ _ htn11, ht12⟩⟩
      clear htw10 htw11
      rintro σ H12 ⟨tw, y, rfl, st12, htn, htw⟩
      -- handed
      obtain ⟨vs12, ha12, dv12⟩ := id st12.2.1
      refine seq_one (fun R g => ?_)
      refine ⟨_, rfl, a, _, rfl, .inl (SqL.of ha12), fun q hq => ?_⟩
      refine g _ _ ?_
      have s13 := same_new (o := HO.lst vs12) hq
      have W13 : WebAt (upd H12 q (.lst vs12)) q ws := ⟨vs12, upd_same, Dats.keep s13.tups _ (imms_map _ imm_tD _) dv12⟩
      -- told
      refine seq_cps (fun σ H14 => ∃ (tt : Addr) (u0 : V) (f : Bool), σ = (lSt sa r D a c (some (.int sh)) (some (.ref tw)) (some (.ref tn)) (some (.ref q)) (some (.ref tt)) x6 x7) ∧ H14 tt = some (.lst [u0, .bl f]) ∧ (StrP ws x ∧ WantP ws y → u0 = .bl (mB x y)) ∧ (¬ (StrP ws x ∧ WantP ws y) → u0 = .non ∧ f = true) ∧ Same (upd H12 q (.lst vs12)) H14) (fun D' hD' _ => ?_) ?_
      · exact ⟨_, rfl, _, rfl, _, rfl, q, tn, tw, ws, x, y, rfl, W13, wl, s13 _ _ htn, s13 _ _ htw, fun s w tt H14 e s14 => hD' _ _ ⟨tt, _, _, rfl, e, fun _ => rfl, fun z => absurd ⟨s, w⟩ z, s14⟩, fun no tt H14 e s14 => hD' _ _ ⟨tt, _, _, rfl, e, fun z => absurd z no, fun _ => ⟨rfl, rfl⟩, s14⟩⟩
      rintro σ H14 ⟨tt, u0, f, rfl, ett, hu1, hu2, s14⟩
      have s1214 := s13.trans s14
      have htn14 := s1214 _ _ htn
      have htw14 := s1214 _ _ htw
      -- due
      refine seq_cps (fun σ H15 => σ = (lSt sa r D a c (some (.int sh)) (some (.ref tw)) (some (.ref tn)) (some (.ref q)) (some (.ref tt)) (some (.bl (mB x y))) x7) ∧ H15 = H14) (fun D' hD' _ => ?_) ?_
      · have fin : ∀ b, b = mB x y → D'.nx (lSt sa r D a c (some (.int sh)) (some (.ref tw)) (some (.ref tn)) (some (.ref q)) (some (.ref tt)) (some (.bl b)) x7) H14 := fun b e => by rw [e]; exact hD' _ _ ⟨rfl, rfl⟩
        refine ⟨_, rfl, _, _, _, _, rfl, rfl, SqT.of htn14, rfl, _, rfl, _, _, _, _, rfl, rfl, SqT.of htw14, rfl, rfl, _, rfl, ?_⟩
        by_cases e1 : x.1 = y.1
        rotate_left
        · refine ite2 (fun z => absurd (of_decide_eq_true z) (fun w => e1 (by injection w))) (fun _ => ?_)
          exact fin false (by simp [mB, e1])
        refine ite2 (fun _ => ?_) (fun z => absurd (decide_eq_true (by rw [e1])) z)
        refine ⟨_, rfl, _, _, _, _, rfl, rfl, SqT.of htn14, rfl, _, rfl, _, _, _, _, rfl, rfl, SqT.of htw14, rfl, rfl, _, rfl, ?_⟩
        by_cases e2 : x.2.2.1 = y.2.2.1
        rotate_left
        · refine ite2 (fun z => absurd (of_decide_eq_true z) (fun w => e2 (by injection w))) (fun _ => ?_)
          exact fin false (by simp [mB, e2])
        refine ite2 (fun _ => ?_) (fun z => absurd (decide_eq_true (by rw [e2])) z)
        refine ⟨_, rfl, _, _, _, _, rfl, rfl, SqT.of htn14, rfl, _, rfl, _, _, _, _, rfl, rfl, SqT.of htw14, rfl, _, _, rfl, rfl, _, rfl, ?_⟩
        by_cases e3 : x.2.1 ≥ y.2.1
        rotate_left
        · refine ite2 (fun z => absurd (of_decide_eq_true z) e3) (fun _ => ?_)
          exact fin false (by simp only [mB, decide_eq_false e3, Bool.false_and, Bool.and_false])
        refine ite2 (fun _ => ?_) (fun z => absurd (decide_eq_true e3) z)
        refine ⟨_, rfl, _, _, _, _, rfl, rfl, SqT.of htn14, rfl, _, rfl, _, _, _, _, rfl, rfl, SqT.of htw14, rfl, _, _, rfl, rfl, ?_⟩
        have : decide (x.2.2.2 ≤ y.2.2.2) = mB x y := by simp only [mB, decide_eq_true (⟨e1, e2⟩ : x.1 = y.1 ∧ x.2.2.1 = y.2.2.1), decide_eq_true e3, Bool.true_and]
        exact fin _ this
      rintro σ H15 ⟨rfl, rfl⟩
      have st15 := keepS st12 s1214
      -- good
      refine seq_cps (fun σ H16 => ∃ gd : Bool, σ = (lSt sa r D a c (some (.int sh)) (some (.ref tw)) (some (.ref tn)) (some (.ref q)) (some (.ref tt)) (some (.bl (mB x y))) (some (.bl gd))) ∧ (gd = true ↔ StrP ws x ∧ WantP ws y) ∧ Same H15 H16) (fun D' hD' _ => ?_) ?_
      · refine ⟨_, rfl, _, rfl, c, tn, ws, x, rfl, st15.2.2.1, htn14, fun ns H16 s16 => ⟨rfl, _, rfl, ?_⟩, fun i j st u H16 eu s16 => ⟨rfl, _, rfl, ?_⟩⟩
        · refine ite2 (fun z => absurd z (by simp)) (fun _ => ?_)
          exact hD' _ _ ⟨_, rfl, ⟨fun z => absurd z (by simp), fun z => absurd z.1 ns⟩, s16⟩
        · refine ite2 (fun _ => ?_) (fun z => absurd (by simp) z)
          have st16 := keepS st15 s16
          exact ⟨_, rfl, _, rfl, _, rfl, a, c, tw, ws, y, rfl, st16.2.1, st16.2.2.1, s16 _ _ htw14, fun bl H17 hbl s17 => hD' _ _ ⟨bl, rfl, ⟨fun z => ⟨⟨i, j, st⟩, hbl.mp z⟩, fun z => hbl.mpr z.2⟩, s16.trans s17⟩⟩
      rintro σ H16 ⟨gd, rfl, hgd, s16⟩
      have st16 := keepS st15 s16
      have ett16 := s16 _ _ ett
      have W16 := W13.same (s14.trans s16)
      obtain ⟨vsa, hwa, dwa⟩ := id W16
      obtain ⟨vsb, hwb, dwb⟩ := id st16.2.1
      have eqw : (if true = true then !PyData.eqv (.list (ws.map tD)) (.list (ws.map tD)) else PyData.eqv (.list (ws.map tD)) (.list (ws.map tD))) = false := by rw [if_pos rfl, eqv_web_same]; rfl
      have fin : ∀ {H17 : Hp} {x6' x7' : Option V}, Same H16 H17 → ∃ (y1 y2 y3 y4 y5 y6 y7 : Option V), (lSt sa r D a c (some (V.int sh)) (some (V.ref tw)) (some (V.ref tn)) (some (V.ref q)) (some (V.ref tt)) x6' x7') = (lSt sa r D a c y1 y2 y3 y4 y5 y6 y7) ∧ SpringOk H17 r ∧ WebAt H17 a ws ∧ PrsAt H17 c (nm ws) ∧ H17 D = some (.lst (zs.map V.int)) := fun sm => ⟨_, _, _, _, _, _, _, rfl, keepS st16 sm⟩
      refine ⟨_, rfl, _, rfl, ?_⟩
      cases gd with
      | true =>
        have good := hgd.mp rfl
        have eu := hu1 good
        subst eu
        refine iteT ?_
        refine ⟨_, rfl, _, _, _, _, rfl, rfl, SqL.of ett16, rfl, _, _, true, rfl, .bl _, isi_bool_bool K, true, rfl, ?_⟩
        refine iteF ?_
        refine ⟨_, rfl, _, _, _, _, rfl, rfl, SqL.of ett16, rfl, _, rfl, rfl, _, rfl, ?_⟩
        refine iteNS rfl ?_
        refine ⟨_, rfl, _, rfl, _, _, dat_list hwa dwa, dat_list hwb dwb, shaped_web ok, shaped_web ok, _, rfl, ?_⟩
        rw [eqw]
        refine iteF ?_
        refine ⟨_, rfl, _, rfl, ?_⟩
        refine iteF ?_
        exact fin (Same.refl _)
      | false =>
        have ng : ¬ (StrP ws x ∧ WantP ws y) := fun z => absurd (hgd.mpr z) (by decide)
        obtain ⟨rfl, rfl⟩ := hu2 ng
        refine iteF ?_
        refine ⟨_, rfl, _, rfl, _, _, dat_list hwa dwa, dat_list hwb dwb, shaped_web ok, shaped_web ok, _, rfl, ?_⟩
        rw [eqw]
        refine iteF ?_
        refine ⟨_, rfl, _, rfl, ?_⟩
        refine iteT ?_
        refine ⟨_, rfl, (by show 2 ≤ sizeLine; decide), fun q3 hq3 => ?_⟩
        have s17 := same_new (o := HO.lst [V.non, V.bl true]) hq3
        have d1 : Dat (upd H16 q3 (HO.lst [V.non, V.bl true])) (.ref tt) (.list [.none, .bool true]) := dat_list (s17 _ _ ett16) (by simp only [Dats, Dat, and_self])
        have d2 : Dat (upd H16 q3 (HO.lst [V.non, V.bl true])) (.ref q3) (.list [.none, .bool true]) := dat_list upd_same (by simp only [Dats, Dat, and_self])
        refine ⟨_, _, d1, d2, rfl, rfl, _, rfl, ?_⟩
        refine iteF ?_
        exact fin s17
    · rintro σ H5 ⟨x1, x2, x3, x4, x5, x6, x7, rfl, _⟩
      exact k H5

end
theorem len0 {us : List Value} (h : us.length = 0) : us = [] := List.eq_nil_of_length_eq_zero h
theorem lenS {us : List Value} {n : Nat} (h : us.length = n + 1) : ∃ a vs, us = a :: vs ∧ vs.length = n := by
  cases us with
  | nil => cases h
  | cons a t => exact ⟨a, t, rfl, Nat.succ.inj h⟩
theorem bi_Lspring (kV doc pm : Value) (an : Option Addr) (cdv ct : Value) (us : List Value) (hl : us.length = (["script"] : List Str).length) : bindArgs (PySem.W.fnOf "_law_spring" "_law_spring" (defArgs s_Lspring) (defBody s_Lspring) (defScope s_Lspring) .none kV doc pm an cdv ct) ⟨us, []⟩ = pure ((["script"] : List Str).zip us) := by obtain ⟨_, _, rfl, h1⟩ := lenS hl; cases len0 h1; rfl
theorem bi_Ldraw (kV doc pm : Value) (an : Option Addr) (cdv ct : Value) (us : List Value) (hl : us.length = (["spring", "many"] : List Str).length) : bindArgs (PySem.W.fnOf "_law_draw" "_law_draw" (defArgs s_Ldraw) (defBody s_Ldraw) (defScope s_Ldraw) .none kV doc pm an cdv ct) ⟨us, []⟩ = pure ((["spring", "many"] : List Str).zip us) := by obtain ⟨_, _, rfl, h1⟩ := lenS hl; obtain ⟨_, _, rfl, h2⟩ := lenS h1; cases len0 h2; rfl
theorem bi_Lweb (kV doc pm : Value) (an : Option Addr) (cdv ct : Value) (us : List Value) (hl : us.length = (["spring", "most"] : List Str).length) : bindArgs (PySem.W.fnOf "_law_web" "_law_web" (defArgs s_Lweb) (defBody s_Lweb) (defScope s_Lweb) .none kV doc pm an cdv ct) ⟨us, []⟩ = pure ((["spring", "most"] : List Str).zip us) := by obtain ⟨_, _, rfl, h1⟩ := lenS hl; obtain ⟨_, _, rfl, h2⟩ := lenS h1; cases len0 h2; rfl
theorem bi_is_whole (kV doc pm : Value) (an : Option Addr) (cdv ct : Value) (us : List Value) (hl : us.length = (["value"] : List Str).length) : bindArgs (PySem.W.fnOf "is_whole" "is_whole" (defArgs s_is_whole) (defBody s_is_whole) (defScope s_is_whole) .none kV doc pm an cdv ct) ⟨us, []⟩ = pure ((["value"] : List Str).zip us) := by obtain ⟨_, _, rfl, h1⟩ := lenS hl; cases len0 h1; rfl
theorem bi_names (kV doc pm : Value) (an : Option Addr) (cdv ct : Value) (us : List Value) (hl : us.length = (["web"] : List Str).length) : bindArgs (PySem.W.fnOf "names" "names" (defArgs s_names) (defBody s_names) (defScope s_names) .none kV doc pm an cdv ct) ⟨us, []⟩ = pure ((["web"] : List Str).zip us) := by obtain ⟨_, _, rfl, h1⟩ := lenS hl; cases len0 h1; rfl
theorem bi_touches_meet (kV doc pm : Value) (an : Option Addr) (cdv ct : Value) (us : List Value) (hl : us.length = (["one", "other"] : List Str).length) : bindArgs (PySem.W.fnOf "touches_meet" "touches_meet" (defArgs s_touches_meet) (defBody s_touches_meet) (defScope s_touches_meet) .none kV doc pm an cdv ct) ⟨us, []⟩ = pure ((["one", "other"] : List Str).zip us) := by obtain ⟨_, _, rfl, h1⟩ := lenS hl; obtain ⟨_, _, rfl, h2⟩ := lenS h1; cases len0 h2; rfl
theorem bi_is_note (kV doc pm : Value) (an : Option Addr) (cdv ct : Value) (us : List Value) (hl : us.length = (["value"] : List Str).length) : bindArgs (PySem.W.fnOf "is_note" "is_note" (defArgs s_is_note) (defBody s_is_note) (defScope s_is_note) .none kV doc pm an cdv ct) ⟨us, []⟩ = pure ((["value"] : List Str).zip us) := by obtain ⟨_, _, rfl, h1⟩ := lenS hl; cases len0 h1; rfl
theorem bi_is_strict (kV doc pm : Value) (an : Option Addr) (cdv ct : Value) (us : List Value) (hl : us.length = (["places", "note"] : List Str).length) : bindArgs (PySem.W.fnOf "is_strict" "is_strict" (defArgs s_is_strict) (defBody s_is_strict) (defScope s_is_strict) .none kV doc pm an cdv ct) ⟨us, []⟩ = pure ((["places", "note"] : List Str).zip us) := by obtain ⟨_, _, rfl, h1⟩ := lenS hl; obtain ⟨_, _, rfl, h2⟩ := lenS h1; cases len0 h2; rfl
theorem bi_check_strict (kV doc pm : Value) (an : Option Addr) (cdv ct : Value) (us : List Value) (hl : us.length = (["places", "some"] : List Str).length) : bindArgs (PySem.W.fnOf "check_strict" "check_strict" (defArgs s_check_strict) (defBody s_check_strict) (defScope s_check_strict) .none kV doc pm an cdv ct) ⟨us, []⟩ = pure ((["places", "some"] : List Str).zip us) := by obtain ⟨_, _, rfl, h1⟩ := lenS hl; obtain ⟨_, _, rfl, h2⟩ := lenS h1; cases len0 h2; rfl
theorem bi_places_of (kV doc pm : Value) (an : Option Addr) (cdv ct : Value) (us : List Value) (hl : us.length = (["web"] : List Str).length) : bindArgs (PySem.W.fnOf "places_of" "places_of" (defArgs s_places_of) (defBody s_places_of) (defScope s_places_of) .none kV doc pm an cdv ct) ⟨us, []⟩ = pure ((["web"] : List Str).zip us) := by obtain ⟨_, _, rfl, h1⟩ := lenS hl; cases len0 h1; rfl
theorem bi_is_want (kV doc pm : Value) (an : Option Addr) (cdv ct : Value) (us : List Value) (hl : us.length = (["web", "places", "note"] : List Str).length) : bindArgs (PySem.W.fnOf "is_want" "is_want" (defArgs s_is_want) (defBody s_is_want) (defScope s_is_want) .none kV doc pm an cdv ct) ⟨us, []⟩ = pure ((["web", "places", "note"] : List Str).zip us) := by obtain ⟨_, _, rfl, h1⟩ := lenS hl; obtain ⟨_, _, rfl, h2⟩ := lenS h1; obtain ⟨_, _, rfl, h3⟩ := lenS h2; cases len0 h3; rfl
theorem bi_hands_of (kV doc pm : Value) (an : Option Addr) (cdv ct : Value) (us : List Value) (hl : us.length = (["note"] : List Str).length) : bindArgs (PySem.W.fnOf "hands_of" "hands_of" (defArgs s_hands_of) (defBody s_hands_of) (defScope s_hands_of) .none kV doc pm an cdv ct) ⟨us, []⟩ = pure ((["note"] : List Str).zip us) := by obtain ⟨_, _, rfl, h1⟩ := lenS hl; cases len0 h1; rfl
theorem bi_meets (kV doc pm : Value) (an : Option Addr) (cdv ct : Value) (us : List Value) (hl : us.length = (["note", "want"] : List Str).length) : bindArgs (PySem.W.fnOf "meets" "meets" (defArgs s_meets) (defBody s_meets) (defScope s_meets) .none kV doc pm an cdv ct) ⟨us, []⟩ = pure ((["note", "want"] : List Str).zip us) := by obtain ⟨_, _, rfl, h1⟩ := lenS hl; obtain ⟨_, _, rfl, h2⟩ := lenS h1; cases len0 h2; rfl
theorem bi_meets_want (kV doc pm : Value) (an : Option Addr) (cdv ct : Value) (us : List Value) (hl : us.length = (["web", "note", "want"] : List Str).length) : bindArgs (PySem.W.fnOf "meets_want" "meets_want" (defArgs s_meets_want) (defBody s_meets_want) (defScope s_meets_want) .none kV doc pm an cdv ct) ⟨us, []⟩ = pure ((["web", "note", "want"] : List Str).zip us) := by obtain ⟨_, _, rfl, h1⟩ := lenS hl; obtain ⟨_, _, rfl, h2⟩ := lenS h1; obtain ⟨_, _, rfl, h3⟩ := lenS h2; cases len0 h3; rfl
theorem bi_Lcalls (kV doc pm : Value) (an : Option Addr) (cdv ct : Value) (us : List Value) (hl : us.length = (["web"] : List Str).length) : bindArgs (PySem.W.fnOf "_law_calls" "_law_calls" (defArgs s_Lcalls) (defBody s_Lcalls) (defScope s_Lcalls) .none kV doc pm an cdv ct) ⟨us, []⟩ = pure ((["web"] : List Str).zip us) := by obtain ⟨_, _, rfl, h1⟩ := lenS hl; cases len0 h1; rfl
theorem bi_Lmeets (kV doc pm : Value) (an : Option Addr) (cdv ct : Value) (us : List Value) (hl : us.length = (["one", "other"] : List Str).length) : bindArgs (PySem.W.fnOf "_law_meets" "_law_meets" (defArgs s_Lmeets) (defBody s_Lmeets) (defScope s_Lmeets) .none kV doc pm an cdv ct) ⟨us, []⟩ = pure ((["one", "other"] : List Str).zip us) := by obtain ⟨_, _, rfl, h1⟩ := lenS hl; obtain ⟨_, _, rfl, h2⟩ := lenS h1; cases len0 h2; rfl
theorem bi_Lends (kV doc pm : Value) (an : Option Addr) (cdv ct : Value) (us : List Value) (hl : us.length = (["calls", "note"] : List Str).length) : bindArgs (PySem.W.fnOf "_law_ends" "_law_ends" (defArgs s_Lends) (defBody s_Lends) (defScope s_Lends) .none kV doc pm an cdv ct) ⟨us, []⟩ = pure ((["calls", "note"] : List Str).zip us) := by obtain ⟨_, _, rfl, h1⟩ := lenS hl; obtain ⟨_, _, rfl, h2⟩ := lenS h1; cases len0 h2; rfl
theorem bi_Lis_want (kV doc pm : Value) (an : Option Addr) (cdv ct : Value) (us : List Value) (hl : us.length = (["web", "calls", "note"] : List Str).length) : bindArgs (PySem.W.fnOf "_law_is_want" "_law_is_want" (defArgs s_Lis_want) (defBody s_Lis_want) (defScope s_Lis_want) .none kV doc pm an cdv ct) ⟨us, []⟩ = pure ((["web", "calls", "note"] : List Str).zip us) := by obtain ⟨_, _, rfl, h1⟩ := lenS hl; obtain ⟨_, _, rfl, h2⟩ := lenS h1; obtain ⟨_, _, rfl, h3⟩ := lenS h2; cases len0 h3; rfl
theorem bi_Lpick (kV doc pm : Value) (an : Option Addr) (cdv ct : Value) (us : List Value) (hl : us.length = (["spring", "web", "calls", "only"] : List Str).length) : bindArgs (PySem.W.fnOf "_law_pick" "_law_pick" (defArgs s_Lpick) (defBody s_Lpick) (defScope s_Lpick) .none kV doc pm an cdv ct) ⟨us, []⟩ = pure ((["spring", "web", "calls", "only"] : List Str).zip us) := by obtain ⟨_, _, rfl, h1⟩ := lenS hl; obtain ⟨_, _, rfl, h2⟩ := lenS h1; obtain ⟨_, _, rfl, h3⟩ := lenS h2; obtain ⟨_, _, rfl, h4⟩ := lenS h3; cases len0 h4; rfl
theorem bi_Lstrange (kV doc pm : Value) (an : Option Addr) (cdv ct : Value) (us : List Value) (hl : us.length = (["spring", "note"] : List Str).length) : bindArgs (PySem.W.fnOf "_law_strange" "_law_strange" (defArgs s_Lstrange) (defBody s_Lstrange) (defScope s_Lstrange) .none kV doc pm an cdv ct) ⟨us, []⟩ = pure ((["spring", "note"] : List Str).zip us) := by obtain ⟨_, _, rfl, h1⟩ := lenS hl; obtain ⟨_, _, rfl, h2⟩ := lenS h1; cases len0 h2; rfl
theorem bi_Lfree (kV doc pm : Value) (an : Option Addr) (cdv ct : Value) (us : List Value) (hl : us.length = (["spring", "calls"] : List Str).length) : bindArgs (PySem.W.fnOf "_law_free" "_law_free" (defArgs s_Lfree) (defBody s_Lfree) (defScope s_Lfree) .none kV doc pm an cdv ct) ⟨us, []⟩ = pure ((["spring", "calls"] : List Str).zip us) := by obtain ⟨_, _, rfl, h1⟩ := lenS hl; obtain ⟨_, _, rfl, h2⟩ := lenS h1; cases len0 h2; rfl
theorem bi_Lnear (kV doc pm : Value) (an : Option Addr) (cdv ct : Value) (us : List Value) (hl : us.length = (["spring", "calls", "want"] : List Str).length) : bindArgs (PySem.W.fnOf "_law_near" "_law_near" (defArgs s_Lnear) (defBody s_Lnear) (defScope s_Lnear) .none kV doc pm an cdv ct) ⟨us, []⟩ = pure ((["spring", "calls", "want"] : List Str).zip us) := by obtain ⟨_, _, rfl, h1⟩ := lenS hl; obtain ⟨_, _, rfl, h2⟩ := lenS h1; obtain ⟨_, _, rfl, h3⟩ := lenS h2; cases len0 h3; rfl
theorem bi_Lasked (kV doc pm : Value) (an : Option Addr) (cdv ct : Value) (us : List Value) (hl : us.length = (["web", "note", "want"] : List Str).length) : bindArgs (PySem.W.fnOf "_law_asked" "_law_asked" (defArgs s_Lasked) (defBody s_Lasked) (defScope s_Lasked) .none kV doc pm an cdv ct) ⟨us, []⟩ = pure ((["web", "note", "want"] : List Str).zip us) := by obtain ⟨_, _, rfl, h1⟩ := lenS hl; obtain ⟨_, _, rfl, h2⟩ := lenS h1; obtain ⟨_, _, rfl, h3⟩ := lenS h2; cases len0 h3; rfl
theorem all_mk {l : PySem.W.OpenLaw} {w : World} {K : PySem.W.Frag} {h : Heap} {mg : Str → Option Value} {fa f0 f1 f2 f3 f4 f5 f6 f7 f8 f9 f10 f11 f12 f13 f14 f15 f16 f17 f18 f19 f20 f21 f22 f23 C_NoNote C_NoteError C_Held C_NoCut C_NoForm C_NoHand C_NoneYet C_NoNumber C_NoText C_NoOrder C_NoPlace C_Over C_RowError C_TooMany : Addr} (X : K.In h) (G : h.Ns mainGlobals mg) (hfa : mg "law" = some (.ref fa))
    {od0 an0 od1 an1 od2 an2 od3 an3 od4 an4 od5 an5 od6 an6 od7 an7 od8 an8 od9 an9 od10 an10 od11 an11 od12 an12 od13 an13 od14 an14 od15 an15 od16 an16 od17 an17 od18 an18 od19 an19 od20 an20 od21 an21 od22 an22 od23 an23 : Option Addr} {sl0 sl1 sl2 sl3 sl4 sl5 sl6 sl7 sl8 sl9 sl10 sl11 sl12 sl13 sl14 sl15 sl16 sl17 sl18 sl19 sl20 sl21 sl22 sl23 : Array (Option Value)} {oc0 kV0 dc0 pm0 cd0 ct0 oc1 kV1 dc1 pm1 cd1 ct1 oc2 kV2 dc2 pm2 cd2 ct2 oc3 kV3 dc3 pm3 cd3 ct3 oc4 kV4 dc4 pm4 cd4 ct4 oc5 kV5 dc5 pm5 cd5 ct5 oc6 kV6 dc6 pm6 cd6 ct6 oc7 kV7 dc7 pm7 cd7 ct7 oc8 kV8 dc8 pm8 cd8 ct8 oc9 kV9 dc9 pm9 cd9 ct9 oc10 kV10 dc10 pm10 cd10 ct10 oc11 kV11 dc11 pm11 cd11 ct11 oc12 kV12 dc12 pm12 cd12 ct12 oc13 kV13 dc13 pm13 cd13 ct13 oc14 kV14 dc14 pm14 cd14 ct14 oc15 kV15 dc15 pm15 cd15 ct15 oc16 kV16 dc16 pm16 cd16 ct16 oc17 kV17 dc17 pm17 cd17 ct17 oc18 kV18 dc18 pm18 cd18 ct18 oc19 kV19 dc19 pm19 cd19 ct19 oc20 kV20 dc20 pm20 cd20 ct20 oc21 kV21 dc21 pm21 cd21 ct21 oc22 kV22 dc22 pm22 cd22 ct22 oc23 kV23 dc23 pm23 cd23 ct23 : Value}
    (a0 : PySem.W.nsIn K mainGlobals "_law_spring" = some (some (.ref f0))) (l0 : K.lookup f0 = some ⟨oc0, od0, .func (PySem.W.fnOf "_law_spring" "_law_spring" (defArgs s_Lspring) (defBody s_Lspring) (defScope s_Lspring) .none kV0 dc0 pm0 an0 cd0 ct0), sl0⟩) (c0 : PySem.W.codeIn K cd0 "_law_spring" = true) (k0 : PySem.W.keepIn K (.ref f0) = true)
    (a1 : PySem.W.nsIn K mainGlobals "_law_draw" = some (some (.ref f1))) (l1 : K.lookup f1 = some ⟨oc1, od1, .func (PySem.W.fnOf "_law_draw" "_law_draw" (defArgs s_Ldraw) (defBody s_Ldraw) (defScope s_Ldraw) .none kV1 dc1 pm1 an1 cd1 ct1), sl1⟩) (c1 : PySem.W.codeIn K cd1 "_law_draw" = true) (k1 : PySem.W.keepIn K (.ref f1) = true)
    (a2 : PySem.W.nsIn K mainGlobals "_law_web" = some (some (.ref f2))) (l2 : K.lookup f2 = some ⟨oc2, od2, .func (PySem.W.fnOf "_law_web" "_law_web" (defArgs s_Lweb) (defBody s_Lweb) (defScope s_Lweb) .none kV2 dc2 pm2 an2 cd2 ct2), sl2⟩) (c2 : PySem.W.codeIn K cd2 "_law_web" = true) (k2 : PySem.W.keepIn K (.ref f2) = true)
    (a3 : PySem.W.nsIn K mainGlobals "is_whole" = some (some (.ref f3))) (l3 : K.lookup f3 = some ⟨oc3, od3, .func (PySem.W.fnOf "is_whole" "is_whole" (defArgs s_is_whole) (defBody s_is_whole) (defScope s_is_whole) .none kV3 dc3 pm3 an3 cd3 ct3), sl3⟩) (c3 : PySem.W.codeIn K cd3 "is_whole" = true) (k3 : PySem.W.keepIn K (.ref f3) = true)
    (a4 : PySem.W.nsIn K mainGlobals "names" = some (some (.ref f4))) (l4 : K.lookup f4 = some ⟨oc4, od4, .func (PySem.W.fnOf "names" "names" (defArgs s_names) (defBody s_names) (defScope s_names) .none kV4 dc4 pm4 an4 cd4 ct4), sl4⟩) (c4 : PySem.W.codeIn K cd4 "names" = true) (k4 : PySem.W.keepIn K (.ref f4) = true)
    (a5 : PySem.W.nsIn K mainGlobals "touches_meet" = some (some (.ref f5))) (l5 : K.lookup f5 = some ⟨oc5, od5, .func (PySem.W.fnOf "touches_meet" "touches_meet" (defArgs s_touches_meet) (defBody s_touches_meet) (defScope s_touches_meet) .none kV5 dc5 pm5 an5 cd5 ct5), sl5⟩) (c5 : PySem.W.codeIn K cd5 "touches_meet" = true) (k5 : PySem.W.keepIn K (.ref f5) = true)
    (a6 : PySem.W.nsIn K mainGlobals "is_note" = some (some (.ref f6))) (l6 : K.lookup f6 = some ⟨oc6, od6, .func (PySem.W.fnOf "is_note" "is_note" (defArgs s_is_note) (defBody s_is_note) (defScope s_is_note) .none kV6 dc6 pm6 an6 cd6 ct6), sl6⟩) (c6 : PySem.W.codeIn K cd6 "is_note" = true) (k6 : PySem.W.keepIn K (.ref f6) = true)
    (a7 : PySem.W.nsIn K mainGlobals "is_strict" = some (some (.ref f7))) (l7 : K.lookup f7 = some ⟨oc7, od7, .func (PySem.W.fnOf "is_strict" "is_strict" (defArgs s_is_strict) (defBody s_is_strict) (defScope s_is_strict) .none kV7 dc7 pm7 an7 cd7 ct7), sl7⟩) (c7 : PySem.W.codeIn K cd7 "is_strict" = true) (k7 : PySem.W.keepIn K (.ref f7) = true)
    (a8 : PySem.W.nsIn K mainGlobals "check_strict" = some (some (.ref f8))) (l8 : K.lookup f8 = some ⟨oc8, od8, .func (PySem.W.fnOf "check_strict" "check_strict" (defArgs s_check_strict) (defBody s_check_strict) (defScope s_check_strict) .none kV8 dc8 pm8 an8 cd8 ct8), sl8⟩) (c8 : PySem.W.codeIn K cd8 "check_strict" = true) (k8 : PySem.W.keepIn K (.ref f8) = true)
    (a9 : PySem.W.nsIn K mainGlobals "places_of" = some (some (.ref f9))) (l9 : K.lookup f9 = some ⟨oc9, od9, .func (PySem.W.fnOf "places_of" "places_of" (defArgs s_places_of) (defBody s_places_of) (defScope s_places_of) .none kV9 dc9 pm9 an9 cd9 ct9), sl9⟩) (c9 : PySem.W.codeIn K cd9 "places_of" = true) (k9 : PySem.W.keepIn K (.ref f9) = true)
    (a10 : PySem.W.nsIn K mainGlobals "is_want" = some (some (.ref f10))) (l10 : K.lookup f10 = some ⟨oc10, od10, .func (PySem.W.fnOf "is_want" "is_want" (defArgs s_is_want) (defBody s_is_want) (defScope s_is_want) .none kV10 dc10 pm10 an10 cd10 ct10), sl10⟩) (c10 : PySem.W.codeIn K cd10 "is_want" = true) (k10 : PySem.W.keepIn K (.ref f10) = true)
    (a11 : PySem.W.nsIn K mainGlobals "hands_of" = some (some (.ref f11))) (l11 : K.lookup f11 = some ⟨oc11, od11, .func (PySem.W.fnOf "hands_of" "hands_of" (defArgs s_hands_of) (defBody s_hands_of) (defScope s_hands_of) .none kV11 dc11 pm11 an11 cd11 ct11), sl11⟩) (c11 : PySem.W.codeIn K cd11 "hands_of" = true) (k11 : PySem.W.keepIn K (.ref f11) = true)
    (a12 : PySem.W.nsIn K mainGlobals "meets" = some (some (.ref f12))) (l12 : K.lookup f12 = some ⟨oc12, od12, .func (PySem.W.fnOf "meets" "meets" (defArgs s_meets) (defBody s_meets) (defScope s_meets) .none kV12 dc12 pm12 an12 cd12 ct12), sl12⟩) (c12 : PySem.W.codeIn K cd12 "meets" = true) (k12 : PySem.W.keepIn K (.ref f12) = true)
    (a13 : PySem.W.nsIn K mainGlobals "meets_want" = some (some (.ref f13))) (l13 : K.lookup f13 = some ⟨oc13, od13, .func (PySem.W.fnOf "meets_want" "meets_want" (defArgs s_meets_want) (defBody s_meets_want) (defScope s_meets_want) .none kV13 dc13 pm13 an13 cd13 ct13), sl13⟩) (c13 : PySem.W.codeIn K cd13 "meets_want" = true) (k13 : PySem.W.keepIn K (.ref f13) = true)
    (a14 : PySem.W.nsIn K mainGlobals "_law_calls" = some (some (.ref f14))) (l14 : K.lookup f14 = some ⟨oc14, od14, .func (PySem.W.fnOf "_law_calls" "_law_calls" (defArgs s_Lcalls) (defBody s_Lcalls) (defScope s_Lcalls) .none kV14 dc14 pm14 an14 cd14 ct14), sl14⟩) (c14 : PySem.W.codeIn K cd14 "_law_calls" = true) (k14 : PySem.W.keepIn K (.ref f14) = true)
    (a15 : PySem.W.nsIn K mainGlobals "_law_meets" = some (some (.ref f15))) (l15 : K.lookup f15 = some ⟨oc15, od15, .func (PySem.W.fnOf "_law_meets" "_law_meets" (defArgs s_Lmeets) (defBody s_Lmeets) (defScope s_Lmeets) .none kV15 dc15 pm15 an15 cd15 ct15), sl15⟩) (c15 : PySem.W.codeIn K cd15 "_law_meets" = true) (k15 : PySem.W.keepIn K (.ref f15) = true)
    (a16 : PySem.W.nsIn K mainGlobals "_law_ends" = some (some (.ref f16))) (l16 : K.lookup f16 = some ⟨oc16, od16, .func (PySem.W.fnOf "_law_ends" "_law_ends" (defArgs s_Lends) (defBody s_Lends) (defScope s_Lends) .none kV16 dc16 pm16 an16 cd16 ct16), sl16⟩) (c16 : PySem.W.codeIn K cd16 "_law_ends" = true) (k16 : PySem.W.keepIn K (.ref f16) = true)
    (a17 : PySem.W.nsIn K mainGlobals "_law_is_want" = some (some (.ref f17))) (l17 : K.lookup f17 = some ⟨oc17, od17, .func (PySem.W.fnOf "_law_is_want" "_law_is_want" (defArgs s_Lis_want) (defBody s_Lis_want) (defScope s_Lis_want) .none kV17 dc17 pm17 an17 cd17 ct17), sl17⟩) (c17 : PySem.W.codeIn K cd17 "_law_is_want" = true) (k17 : PySem.W.keepIn K (.ref f17) = true)
    (a18 : PySem.W.nsIn K mainGlobals "_law_pick" = some (some (.ref f18))) (l18 : K.lookup f18 = some ⟨oc18, od18, .func (PySem.W.fnOf "_law_pick" "_law_pick" (defArgs s_Lpick) (defBody s_Lpick) (defScope s_Lpick) .none kV18 dc18 pm18 an18 cd18 ct18), sl18⟩) (c18 : PySem.W.codeIn K cd18 "_law_pick" = true) (k18 : PySem.W.keepIn K (.ref f18) = true)
    (a19 : PySem.W.nsIn K mainGlobals "_law_strange" = some (some (.ref f19))) (l19 : K.lookup f19 = some ⟨oc19, od19, .func (PySem.W.fnOf "_law_strange" "_law_strange" (defArgs s_Lstrange) (defBody s_Lstrange) (defScope s_Lstrange) .none kV19 dc19 pm19 an19 cd19 ct19), sl19⟩) (c19 : PySem.W.codeIn K cd19 "_law_strange" = true) (k19 : PySem.W.keepIn K (.ref f19) = true)
    (a20 : PySem.W.nsIn K mainGlobals "_law_free" = some (some (.ref f20))) (l20 : K.lookup f20 = some ⟨oc20, od20, .func (PySem.W.fnOf "_law_free" "_law_free" (defArgs s_Lfree) (defBody s_Lfree) (defScope s_Lfree) .none kV20 dc20 pm20 an20 cd20 ct20), sl20⟩) (c20 : PySem.W.codeIn K cd20 "_law_free" = true) (k20 : PySem.W.keepIn K (.ref f20) = true)
    (a21 : PySem.W.nsIn K mainGlobals "_law_near" = some (some (.ref f21))) (l21 : K.lookup f21 = some ⟨oc21, od21, .func (PySem.W.fnOf "_law_near" "_law_near" (defArgs s_Lnear) (defBody s_Lnear) (defScope s_Lnear) .none kV21 dc21 pm21 an21 cd21 ct21), sl21⟩) (c21 : PySem.W.codeIn K cd21 "_law_near" = true) (k21 : PySem.W.keepIn K (.ref f21) = true)
    (a22 : PySem.W.nsIn K mainGlobals "_law_asked" = some (some (.ref f22))) (l22 : K.lookup f22 = some ⟨oc22, od22, .func (PySem.W.fnOf "_law_asked" "_law_asked" (defArgs s_Lasked) (defBody s_Lasked) (defScope s_Lasked) .none kV22 dc22 pm22 an22 cd22 ct22), sl22⟩) (c22 : PySem.W.codeIn K cd22 "_law_asked" = true) (k22 : PySem.W.keepIn K (.ref f22) = true)
    (a23 : PySem.W.nsIn K mainGlobals "law" = some (some (.ref f23))) (l23 : K.lookup f23 = some ⟨oc23, od23, .func (PySem.W.fnOf "law" "law" (defArgs s_law) (defBody s_law) (defScope s_law) .none kV23 dc23 pm23 an23 cd23 ct23), sl23⟩) (c23 : PySem.W.codeIn K cd23 "law" = true) (k23 : PySem.W.keepIn K (.ref f23) = true)
    (xa_NoNote : PySem.W.nsIn K mainGlobals "NoNote" = some (some (.ref C_NoNote)))
    (xcl_NoNote : (PySem.W.clsIn K C_NoNote).isSome = true)
    (xty_NoNote : PySem.W.typeIn K (.ref C_NoNote) = some (.type "type"))
    (xbs_NoNote : PySem.W.subIn K (.ref C_NoNote) (.type "BaseException") = some true)
    (xa_NoteError : PySem.W.nsIn K mainGlobals "NoteError" = some (some (.ref C_NoteError)))
    (xcl_NoteError : (PySem.W.clsIn K C_NoteError).isSome = true)
    (xty_NoteError : PySem.W.typeIn K (.ref C_NoteError) = some (.type "type"))
    (xbs_NoteError : PySem.W.subIn K (.ref C_NoteError) (.type "BaseException") = some true)
    (xa_Held : PySem.W.nsIn K mainGlobals "Held" = some (some (.ref C_Held)))
    (xcl_Held : (PySem.W.clsIn K C_Held).isSome = true)
    (xty_Held : PySem.W.typeIn K (.ref C_Held) = some (.type "type"))
    (xbs_Held : PySem.W.subIn K (.ref C_Held) (.type "BaseException") = some true)
    (xa_NoCut : PySem.W.nsIn K mainGlobals "NoCut" = some (some (.ref C_NoCut)))
    (xcl_NoCut : (PySem.W.clsIn K C_NoCut).isSome = true)
    (xty_NoCut : PySem.W.typeIn K (.ref C_NoCut) = some (.type "type"))
    (xbs_NoCut : PySem.W.subIn K (.ref C_NoCut) (.type "BaseException") = some true)
    (xa_NoForm : PySem.W.nsIn K mainGlobals "NoForm" = some (some (.ref C_NoForm)))
    (xcl_NoForm : (PySem.W.clsIn K C_NoForm).isSome = true)
    (xty_NoForm : PySem.W.typeIn K (.ref C_NoForm) = some (.type "type"))
    (xbs_NoForm : PySem.W.subIn K (.ref C_NoForm) (.type "BaseException") = some true)
    (xa_NoHand : PySem.W.nsIn K mainGlobals "NoHand" = some (some (.ref C_NoHand)))
    (xcl_NoHand : (PySem.W.clsIn K C_NoHand).isSome = true)
    (xty_NoHand : PySem.W.typeIn K (.ref C_NoHand) = some (.type "type"))
    (xbs_NoHand : PySem.W.subIn K (.ref C_NoHand) (.type "BaseException") = some true)
    (xa_NoneYet : PySem.W.nsIn K mainGlobals "NoneYet" = some (some (.ref C_NoneYet)))
    (xcl_NoneYet : (PySem.W.clsIn K C_NoneYet).isSome = true)
    (xty_NoneYet : PySem.W.typeIn K (.ref C_NoneYet) = some (.type "type"))
    (xbs_NoneYet : PySem.W.subIn K (.ref C_NoneYet) (.type "BaseException") = some true)
    (xa_NoNumber : PySem.W.nsIn K mainGlobals "NoNumber" = some (some (.ref C_NoNumber)))
    (xcl_NoNumber : (PySem.W.clsIn K C_NoNumber).isSome = true)
    (xty_NoNumber : PySem.W.typeIn K (.ref C_NoNumber) = some (.type "type"))
    (xbs_NoNumber : PySem.W.subIn K (.ref C_NoNumber) (.type "BaseException") = some true)
    (xa_NoText : PySem.W.nsIn K mainGlobals "NoText" = some (some (.ref C_NoText)))
    (xcl_NoText : (PySem.W.clsIn K C_NoText).isSome = true)
    (xty_NoText : PySem.W.typeIn K (.ref C_NoText) = some (.type "type"))
    (xbs_NoText : PySem.W.subIn K (.ref C_NoText) (.type "BaseException") = some true)
    (xa_NoOrder : PySem.W.nsIn K mainGlobals "NoOrder" = some (some (.ref C_NoOrder)))
    (xcl_NoOrder : (PySem.W.clsIn K C_NoOrder).isSome = true)
    (xty_NoOrder : PySem.W.typeIn K (.ref C_NoOrder) = some (.type "type"))
    (xbs_NoOrder : PySem.W.subIn K (.ref C_NoOrder) (.type "BaseException") = some true)
    (xa_NoPlace : PySem.W.nsIn K mainGlobals "NoPlace" = some (some (.ref C_NoPlace)))
    (xcl_NoPlace : (PySem.W.clsIn K C_NoPlace).isSome = true)
    (xty_NoPlace : PySem.W.typeIn K (.ref C_NoPlace) = some (.type "type"))
    (xbs_NoPlace : PySem.W.subIn K (.ref C_NoPlace) (.type "BaseException") = some true)
    (xa_Over : PySem.W.nsIn K mainGlobals "Over" = some (some (.ref C_Over)))
    (xcl_Over : (PySem.W.clsIn K C_Over).isSome = true)
    (xty_Over : PySem.W.typeIn K (.ref C_Over) = some (.type "type"))
    (xbs_Over : PySem.W.subIn K (.ref C_Over) (.type "BaseException") = some true)
    (xa_RowError : PySem.W.nsIn K mainGlobals "RowError" = some (some (.ref C_RowError)))
    (xcl_RowError : (PySem.W.clsIn K C_RowError).isSome = true)
    (xty_RowError : PySem.W.typeIn K (.ref C_RowError) = some (.type "type"))
    (xbs_RowError : PySem.W.subIn K (.ref C_RowError) (.type "BaseException") = some true)
    (xa_TooMany : PySem.W.nsIn K mainGlobals "TooMany" = some (some (.ref C_TooMany)))
    (xcl_TooMany : (PySem.W.clsIn K C_TooMany).isSome = true)
    (xty_TooMany : PySem.W.typeIn K (.ref C_TooMany) = some (.type "type"))
    (xbs_TooMany : PySem.W.subIn K (.ref C_TooMany) (.type "BaseException") = some true)
    (xne_NoNote_NoteError : (Value.ref C_NoNote == Value.ref C_NoteError) = false)
    (xsb_NoNote_NoteError : PySem.W.subIn K (.ref C_NoNote) (.ref C_NoteError) = some true)
    (xne_NoNote_Held : (Value.ref C_NoNote == Value.ref C_Held) = false)
    (xsb_NoNote_Held : PySem.W.subIn K (.ref C_NoNote) (.ref C_Held) = some false)
    (xne_NoNote_NoCut : (Value.ref C_NoNote == Value.ref C_NoCut) = false)
    (xsb_NoNote_NoCut : PySem.W.subIn K (.ref C_NoNote) (.ref C_NoCut) = some false)
    (xne_NoNote_NoForm : (Value.ref C_NoNote == Value.ref C_NoForm) = false)
    (xsb_NoNote_NoForm : PySem.W.subIn K (.ref C_NoNote) (.ref C_NoForm) = some false)
    (xne_NoNote_NoHand : (Value.ref C_NoNote == Value.ref C_NoHand) = false)
    (xsb_NoNote_NoHand : PySem.W.subIn K (.ref C_NoNote) (.ref C_NoHand) = some false)
    (xne_NoNote_NoneYet : (Value.ref C_NoNote == Value.ref C_NoneYet) = false)
    (xsb_NoNote_NoneYet : PySem.W.subIn K (.ref C_NoNote) (.ref C_NoneYet) = some false)
    (xne_NoNote_NoNumber : (Value.ref C_NoNote == Value.ref C_NoNumber) = false)
    (xsb_NoNote_NoNumber : PySem.W.subIn K (.ref C_NoNote) (.ref C_NoNumber) = some false)
    (xne_NoNote_NoText : (Value.ref C_NoNote == Value.ref C_NoText) = false)
    (xsb_NoNote_NoText : PySem.W.subIn K (.ref C_NoNote) (.ref C_NoText) = some false)
    (xne_NoNote_NoOrder : (Value.ref C_NoNote == Value.ref C_NoOrder) = false)
    (xsb_NoNote_NoOrder : PySem.W.subIn K (.ref C_NoNote) (.ref C_NoOrder) = some false)
    (xne_NoNote_NoPlace : (Value.ref C_NoNote == Value.ref C_NoPlace) = false)
    (xsb_NoNote_NoPlace : PySem.W.subIn K (.ref C_NoNote) (.ref C_NoPlace) = some false)
    (xne_NoNote_Over : (Value.ref C_NoNote == Value.ref C_Over) = false)
    (xsb_NoNote_Over : PySem.W.subIn K (.ref C_NoNote) (.ref C_Over) = some false)
    (xne_NoNote_RowError : (Value.ref C_NoNote == Value.ref C_RowError) = false)
    (xsb_NoNote_RowError : PySem.W.subIn K (.ref C_NoNote) (.ref C_RowError) = some false)
    (xne_NoNote_TooMany : (Value.ref C_NoNote == Value.ref C_TooMany) = false)
    (xsb_NoNote_TooMany : PySem.W.subIn K (.ref C_NoNote) (.ref C_TooMany) = some false)
    (xcg : PySem.W.specialIn K (.builtin "object.__class__") "__get__" = some (some (.builtin "getset_descriptor.__get__")))
    (xct : PySem.W.takesIn K (.builtin "object.__class__") = some true)
    (xga_NoNote : PySem.W.findIn K (.ref C_NoNote) "__getattribute__" = some (some (.builtin "BaseException.__getattribute__")))
    (xgk_NoNote : PySem.W.findIn K (.ref C_NoNote) "__getattr__" = some none)
    (xmB_NoNote : PySem.W.mroIn K C_NoNote (.type "BaseException") = some true)
    (xca_NoNote : PySem.W.findIn K (.ref C_NoNote) "__class__" = some (some (.builtin "object.__class__")))
    (xmo_NoNote : PySem.W.mroIn K C_NoNote (.type "object") = some true)
    (xex_NoNote : PySem.W.excIn K C_NoNote [.type "ValueError", .type "Exception", .type "BaseException", .type "object"] "ValueError.__new__" = true)
    (xve_NoNote : PySem.W.subIn K (.ref C_NoNote) (.type "ValueError") = some true)
    (z_ValueError : PySem.W.nsIn K mainGlobals "ValueError" = some none) (z_abs : PySem.W.nsIn K mainGlobals "abs" = some none) (z_all : PySem.W.nsIn K mainGlobals "all" = some none) (z_bool : PySem.W.nsIn K mainGlobals "bool" = some none) (z_enumerate : PySem.W.nsIn K mainGlobals "enumerate" = some none) (z_int : PySem.W.nsIn K mainGlobals "int" = some none) (z_isinstance : PySem.W.nsIn K mainGlobals "isinstance" = some none) (z_len : PySem.W.nsIn K mainGlobals "len" = some none) (z_list : PySem.W.nsIn K mainGlobals "list" = some none) (z_max : PySem.W.nsIn K mainGlobals "max" = some none) (z_min : PySem.W.nsIn K mainGlobals "min" = some none) (z_range : PySem.W.nsIn K mainGlobals "range" = some none) (z_tuple : PySem.W.nsIn K mainGlobals "tuple" = some none) :
    ∃ fd : FuncData, (∀ (s : Shared) (v : Value), BindsTo s fd ⟨[v], []⟩ [("script", v)]) ∧ ∀ base : Heap, K.In base → base.Ns mainGlobals mg → FnOk l.prog w K mg base CX0 7 fa fd ["script"] (spLaw K) := by
  have e := hfa.symm.trans (PySem.W.mg_of X G a23)
  cases e
  have Bt : Blt mg := ⟨PySem.W.mg_none_of X G z_ValueError, PySem.W.mg_none_of X G z_abs, PySem.W.mg_none_of X G z_all, PySem.W.mg_none_of X G z_bool, PySem.W.mg_none_of X G z_enumerate, PySem.W.mg_none_of X G z_int, PySem.W.mg_none_of X G z_isinstance, PySem.W.mg_none_of X G z_len, PySem.W.mg_none_of X G z_list, PySem.W.mg_none_of X G z_max, PySem.W.mg_none_of X G z_min, PySem.W.mg_none_of X G z_range, PySem.W.mg_none_of X G z_tuple⟩
  have X_NoNote : Xr K mg C_NoNote "NoNote" := ⟨PySem.W.mg_of X G xa_NoNote, ⟨xcl_NoNote, xty_NoNote, xbs_NoNote⟩, ⟨xga_NoNote, xgk_NoNote, xmB_NoNote, xcl_NoNote, xca_NoNote, xcg, xct, xmo_NoNote⟩, xex_NoNote, xve_NoNote⟩
  have O_NoteError : Xo K mg C_NoNote C_NoteError "NoteError" true := ⟨PySem.W.mg_of X G xa_NoteError, ⟨xcl_NoteError, xty_NoteError, xbs_NoteError⟩, ⟨xne_NoNote_NoteError, xsb_NoNote_NoteError⟩⟩
  have O_Held : Xo K mg C_NoNote C_Held "Held" false := ⟨PySem.W.mg_of X G xa_Held, ⟨xcl_Held, xty_Held, xbs_Held⟩, ⟨xne_NoNote_Held, xsb_NoNote_Held⟩⟩
  have O_NoCut : Xo K mg C_NoNote C_NoCut "NoCut" false := ⟨PySem.W.mg_of X G xa_NoCut, ⟨xcl_NoCut, xty_NoCut, xbs_NoCut⟩, ⟨xne_NoNote_NoCut, xsb_NoNote_NoCut⟩⟩
  have O_NoForm : Xo K mg C_NoNote C_NoForm "NoForm" false := ⟨PySem.W.mg_of X G xa_NoForm, ⟨xcl_NoForm, xty_NoForm, xbs_NoForm⟩, ⟨xne_NoNote_NoForm, xsb_NoNote_NoForm⟩⟩
  have O_NoHand : Xo K mg C_NoNote C_NoHand "NoHand" false := ⟨PySem.W.mg_of X G xa_NoHand, ⟨xcl_NoHand, xty_NoHand, xbs_NoHand⟩, ⟨xne_NoNote_NoHand, xsb_NoNote_NoHand⟩⟩
  have O_NoneYet : Xo K mg C_NoNote C_NoneYet "NoneYet" false := ⟨PySem.W.mg_of X G xa_NoneYet, ⟨xcl_NoneYet, xty_NoneYet, xbs_NoneYet⟩, ⟨xne_NoNote_NoneYet, xsb_NoNote_NoneYet⟩⟩
  have O_NoNumber : Xo K mg C_NoNote C_NoNumber "NoNumber" false := ⟨PySem.W.mg_of X G xa_NoNumber, ⟨xcl_NoNumber, xty_NoNumber, xbs_NoNumber⟩, ⟨xne_NoNote_NoNumber, xsb_NoNote_NoNumber⟩⟩
  have O_NoText : Xo K mg C_NoNote C_NoText "NoText" false := ⟨PySem.W.mg_of X G xa_NoText, ⟨xcl_NoText, xty_NoText, xbs_NoText⟩, ⟨xne_NoNote_NoText, xsb_NoNote_NoText⟩⟩
  have O_NoOrder : Xo K mg C_NoNote C_NoOrder "NoOrder" false := ⟨PySem.W.mg_of X G xa_NoOrder, ⟨xcl_NoOrder, xty_NoOrder, xbs_NoOrder⟩, ⟨xne_NoNote_NoOrder, xsb_NoNote_NoOrder⟩⟩
  have O_NoPlace : Xo K mg C_NoNote C_NoPlace "NoPlace" false := ⟨PySem.W.mg_of X G xa_NoPlace, ⟨xcl_NoPlace, xty_NoPlace, xbs_NoPlace⟩, ⟨xne_NoNote_NoPlace, xsb_NoNote_NoPlace⟩⟩
  have O_Over : Xo K mg C_NoNote C_Over "Over" false := ⟨PySem.W.mg_of X G xa_Over, ⟨xcl_Over, xty_Over, xbs_Over⟩, ⟨xne_NoNote_Over, xsb_NoNote_Over⟩⟩
  have O_RowError : Xo K mg C_NoNote C_RowError "RowError" false := ⟨PySem.W.mg_of X G xa_RowError, ⟨xcl_RowError, xty_RowError, xbs_RowError⟩, ⟨xne_NoNote_RowError, xsb_NoNote_RowError⟩⟩
  have O_TooMany : Xo K mg C_NoNote C_TooMany "TooMany" false := ⟨PySem.W.mg_of X G xa_TooMany, ⟨xcl_TooMany, xty_TooMany, xbs_TooMany⟩, ⟨xne_NoNote_TooMany, xsb_NoNote_TooMany⟩⟩
  have F0 := fun_mk (st := s_Lspring) l0 c0 k0
  have F1 := fun_mk (st := s_Ldraw) l1 c1 k1
  have F2 := fun_mk (st := s_Lweb) l2 c2 k2
  have F3 := fun_mk (st := s_is_whole) l3 c3 k3
  have F4 := fun_mk (st := s_names) l4 c4 k4
  have F5 := fun_mk (st := s_touches_meet) l5 c5 k5
  have F6 := fun_mk (st := s_is_note) l6 c6 k6
  have F7 := fun_mk (st := s_is_strict) l7 c7 k7
  have F8 := fun_mk (st := s_check_strict) l8 c8 k8
  have F9 := fun_mk (st := s_places_of) l9 c9 k9
  have F10 := fun_mk (st := s_is_want) l10 c10 k10
  have F11 := fun_mk (st := s_hands_of) l11 c11 k11
  have F12 := fun_mk (st := s_meets) l12 c12 k12
  have F13 := fun_mk (st := s_meets_want) l13 c13 k13
  have F14 := fun_mk (st := s_Lcalls) l14 c14 k14
  have F15 := fun_mk (st := s_Lmeets) l15 c15 k15
  have F16 := fun_mk (st := s_Lends) l16 c16 k16
  have F17 := fun_mk (st := s_Lis_want) l17 c17 k17
  have F18 := fun_mk (st := s_Lpick) l18 c18 k18
  have F19 := fun_mk (st := s_Lstrange) l19 c19 k19
  have F20 := fun_mk (st := s_Lfree) l20 c20 k20
  have F21 := fun_mk (st := s_Lnear) l21 c21 k21
  have F22 := fun_mk (st := s_Lasked) l22 c22 k22
  have F23 := fun_mk (st := s_law) l23 c23 k23
  refine ⟨PySem.W.fnOf "law" "law" (defArgs s_law) (defBody s_law) (defScope s_law) .none kV23 dc23 pm23 an23 cd23 ct23, fun s v => .of_eq rfl, fun base _ _ => ?_⟩
  have A0 : FnAt l.prog w K mg base 1 "_law_spring" ["script"] (spSpring K) := ⟨f0, _, ok_spring F0 Bt, PySem.W.mg_of X G a0, k0, F0.binds (ps := ["script"]) bi_Lspring⟩
  have A1 : FnAt l.prog w K mg base 1 "_law_draw" ["spring", "many"] (spDraw K) := ⟨f1, _, ok_draw F1 , PySem.W.mg_of X G a1, k1, F1.binds (ps := ["spring", "many"]) bi_Ldraw⟩
  have A2 : FnAt l.prog w K mg base 2 "_law_web" ["spring", "most"] (spWeb K) := ⟨f2, _, ok_web F2 A1 Bt, PySem.W.mg_of X G a2, k2, F2.binds (ps := ["spring", "most"]) bi_Lweb⟩
  have A3 : FnAt l.prog w K mg base 1 "is_whole" ["value"] (spWh K) := ⟨f3, _, ok_is_whole F3 Bt, PySem.W.mg_of X G a3, k3, F3.binds (ps := ["value"]) bi_is_whole⟩
  have A4 : FnAt l.prog w K mg base 1 "names" ["web"] (spNames K) := ⟨f4, _, ok_names F4 , PySem.W.mg_of X G a4, k4, F4.binds (ps := ["web"]) bi_names⟩
  have A5 : FnAt l.prog w K mg base 1 "touches_meet" ["one", "other"] (spMt K) := ⟨f5, _, ok_touches_meet F5 , PySem.W.mg_of X G a5, k5, F5.binds (ps := ["one", "other"]) bi_touches_meet⟩
  have A6 : FnAt l.prog w K mg base 2 "is_note" ["value"] (spIsNote K) := ⟨f6, _, ok_is_note F6 A3 Bt, PySem.W.mg_of X G a6, k6, F6.binds (ps := ["value"]) bi_is_note⟩
  have A7 : FnAt l.prog w K mg base 3 "is_strict" ["places", "note"] (spStrict K) := ⟨f7, _, ok_strict F7 A6, PySem.W.mg_of X G a7, k7, F7.binds (ps := ["places", "note"]) bi_is_strict⟩
  have A8 : FnAtX l.prog w K mg base 4 "check_strict" ["places", "some"] (spCheckS C_NoNote K) := ⟨f8, _, ok_checkS F8 X_NoNote A7 Bt, PySem.W.mg_of X G a8, k8, F8.binds (ps := ["places", "some"]) bi_check_strict⟩
  have A9 : FnAt l.prog w K mg base 2 "places_of" ["web"] (spPlaces K) := ⟨f9, _, ok_places F9 A4 Bt, PySem.W.mg_of X G a9, k9, F9.binds (ps := ["web"]) bi_places_of⟩
  have A10 : FnAt l.prog w K mg base 4 "is_want" ["web", "places", "note"] (spIsWant K) := ⟨f10, _, ok_isWant F10 A7 A5, PySem.W.mg_of X G a10, k10, F10.binds (ps := ["web", "places", "note"]) bi_is_want⟩
  have A11 : FnAt l.prog w K mg base 1 "hands_of" ["note"] (spHandsOf K) := ⟨f11, _, ok_handsOf F11 , PySem.W.mg_of X G a11, k11, F11.binds (ps := ["note"]) bi_hands_of⟩
  have A12 : FnAt l.prog w K mg base 2 "meets" ["note", "want"] (spMeets K) := ⟨f12, _, ok_meets F12 A11, PySem.W.mg_of X G a12, k12, F12.binds (ps := ["note", "want"]) bi_meets⟩
  have A13 : FnAtX l.prog w K mg base 5 "meets_want" ["web", "note", "want"] (spMeetsWant C_NoNote K) := ⟨f13, _, ok_meetsWant F13 X_NoNote A9 A8 A10 A12, PySem.W.mg_of X G a13, k13, F13.binds (ps := ["web", "note", "want"]) bi_meets_want⟩
  have A14 : FnAt l.prog w K mg base 1 "_law_calls" ["web"] (spCalls K) := ⟨f14, _, ok_calls F14 Bt, PySem.W.mg_of X G a14, k14, F14.binds (ps := ["web"]) bi_Lcalls⟩
  have A15 : FnAt l.prog w K mg base 1 "_law_meets" ["one", "other"] (spMt K) := ⟨f15, _, ok_Lmeets F15 , PySem.W.mg_of X G a15, k15, F15.binds (ps := ["one", "other"]) bi_Lmeets⟩
  have A16 : FnAt l.prog w K mg base 1 "_law_ends" ["calls", "note"] (spEnds K) := ⟨f16, _, ok_ends F16 , PySem.W.mg_of X G a16, k16, F16.binds (ps := ["calls", "note"]) bi_Lends⟩
  have A17 : FnAt l.prog w K mg base 2 "_law_is_want" ["web", "calls", "note"] (spLwant K) := ⟨f17, _, ok_Lwant F17 A16 A15, PySem.W.mg_of X G a17, k17, F17.binds (ps := ["web", "calls", "note"]) bi_Lis_want⟩
  have A18 : FnAt l.prog w K mg base 2 "_law_pick" ["spring", "web", "calls", "only"] (spPick K) := ⟨f18, _, ok_pick F18 A1 A15 Bt, PySem.W.mg_of X G a18, k18, F18.binds (ps := ["spring", "web", "calls", "only"]) bi_Lpick⟩
  have A19 : FnAt l.prog w K mg base 2 "_law_strange" ["spring", "note"] (spStrange K) := ⟨f19, _, ok_strange F19 A1, PySem.W.mg_of X G a19, k19, F19.binds (ps := ["spring", "note"]) bi_Lstrange⟩
  have A20 : FnAt l.prog w K mg base 2 "_law_free" ["spring", "calls"] (spFree K) := ⟨f20, _, ok_free F20 A1 Bt, PySem.W.mg_of X G a20, k20, F20.binds (ps := ["spring", "calls"]) bi_Lfree⟩
  have A21 : FnAt l.prog w K mg base 2 "_law_near" ["spring", "calls", "want"] (spNear K) := ⟨f21, _, ok_near F21 A1 Bt, PySem.W.mg_of X G a21, k21, F21.binds (ps := ["spring", "calls", "want"]) bi_Lnear⟩
  have A22 : FnAt l.prog w K mg base 6 "_law_asked" ["web", "note", "want"] (spAskedW K) := ⟨f22, _, ok_askedW F22 X_NoNote O_NoteError O_Held O_NoCut O_NoForm O_NoHand O_NoneYet O_NoNumber O_NoText O_NoOrder O_NoPlace O_Over O_RowError O_TooMany A13 Bt, PySem.W.mg_of X G a22, k22, F22.binds (ps := ["web", "note", "want"]) bi_Lasked⟩
  exact ok_law F23 A0 A1 A2 A14 A18 A21 A19 A20 A22 A16 A17 Bt
theorem walk {l : PySem.W.OpenLaw} {q : Program} {loose : List Str} {XP : (Str → Option Value) → Heap → Prop} {YP : World → Heap → Prop} {d : DefRec} {K : Params → PySem.W.Frag} (hn : l.most = some 63) (hdf : d.params.defaults = [])
    (hY : ∀ (w : World) (h : Heap), YP w h → (K w.params).In h)
    (F : ∀ (w : World) (mg : Str → Option Value) (fa : Addr) (h : Heap), (K w.params).In h → h.Ns mainGlobals mg → mg d.name = some (.ref fa) →
      ∃ fd : FuncData, (∀ (s : Shared) (u : Value), BindsTo s fd ⟨[u], []⟩ [("script", u)]) ∧ ∀ base : Heap, (K w.params).In base → base.Ns mainGlobals mg → FnOk l.prog w (K w.params) mg base CX0 7 fa fd ["script"] (spLaw (K w.params))) :
    PySem.W.WalkO q loose XP YP l.row.toRowW d [] (fun f vs => PySem.call f vs) :=
  L2.walk_of (n := 63) (k := 7) (x := "script") (CX := fun _ => CX0) (sp := fun w => spLaw (K w.params)) hn (by decide) hdf ⟨rfl, by decide, by decide⟩ hY F (fun _ _ a ns hl _ hS => ⟨a, ns, rfl, hS, hl, fun _ => rfl⟩) fun _ _ _ _ _ z => z
end Prf
namespace PySem.W.Fast
def tw9379665620050533193 := ()
def tw2908205990630182996 := ()
def tw8271454695066162683 := ()
def tw11200387412938498554 := ()
def tw156967697076243881 := ()
def tw13415638646514213033 := ()
def tw14296275725780815673 := ()
def tw17787810824108585073 := ()
def tw10553291573301664161 := ()
def tw11882790199367024436 := ()
def tw6654734268419340504 := ()
def tw4595464846060067617 := ()
def tw10588316234480654309 := ()
def tw11159371002239173836 := ()
def tw5963953102767022551 := ()
def tw18287626765309283718 := ()
def tw12718348175636647603 := ()
def tw13207664408029042901 := ()
def tw13732686734530458064 := ()
def tw535229515859324992 := ()
def tw10726352811415489077 := ()
def tw3252238457138182112 := ()
def tw8006845690167469504 := ()
def tw15521516529554728874 := ()
def tw16688095795210560483 := ()
def tw2246710114947205185 := ()
def tw17547490234974674190 := ()
def tw10080300971044805649 := ()
def tw4027864087168495555 := ()
def tw8171466027641865877 := ()
def tw15884647741103462248 := ()
def tw7699603119702022381 := ()
def tw13277022958476935535 := ()
def tw4476988144527758124 := ()
def tw14692597766233912699 := ()
def tw7741915143932856162 := ()
def tw9904469127850465168 := ()
def tw15123056630435875126 := ()
def tw14950250896272453209 := ()
def tw3974603317676676153 := ()
def tw12015351930316664974 := ()
def tw17027133934582180293 := ()
def tw10358464173243807383 := ()
def tw15821996793042029403 := ()
def tw12674637849250695509 := ()
def tw17857026569967626446 := ()
def tw15567263544370341459 := ()
def tw16864820974134922763 := ()
def tw17429754723858196413 := ()
def tw18439731416371388884 := ()
def tw4215747780612237207 := ()
def tw4334700522170702519 := ()
def tw12988065958493409345 := ()
def tw14517321481380236877 := ()
def tw9626640719552616201 := ()
def tw10241652686985441171 := ()
def tw9281181765241969200 := ()
def tw13536037896711163435 := ()
def tw12566192004664369520 := ()
def tw9669231458004041237 := ()
def tw15287453473330738542 := ()
def tw5245855545243090702 := ()
def tw4509355740890534465 := ()
def tw1361183164702341893 := ()
def tw2421763013255609126 := ()
def tw2303690596757412857 := ()
def tw14707773516097726014 := ()
def tw8973010678536893375 := ()
def tw6532138509432384567 := ()
def tw16482651378025480566 := ()
def tw17932400503471432728 := ()
def tw14492584151135656211 := ()
def tw12013650294585047110 := ()
def tw12191129589210373780 := ()
def tw2420582566588515505 := ()
def tw3994885398249331072 := ()
def tw13382155458607783777 := ()
def tw4528816092873950264 := ()
def tw3584962010182778776 := ()
def tw15869399158531225613 := ()
def tw11053683846875314560 := ()
def tw720102107777382400 := ()
def tw10572978476046540747 := ()
def tw16255541919252720525 := ()
def tw268595091931367383 := ()
def tw3223250863661674257 := ()
def tw10397143594361741624 := ()
def tw14394963940405454097 := ()
def tw4224682778667583180 := ()
def tw2387357684729857394 := ()
def tw9522334421579791609 := ()
def tw17370522317869641930 := ()
def tw8009562207862676084 := ()
def tw7076364448078116147 := ()
def tw11299742332862786545 := ()
def tw10465661204166472014 := ()
def tw15435389656678278607 := ()
def tw11102253234411411880 := ()
def tw3110326911414531861 := ()
def tw6935838158690240731 := ()
def tw16667582919428404320 := ()
def tw705031621965238134 := ()
def tw5544241188005166746 := ()
def tw12670389688281221678 := ()
def tw15997937222536826284 := ()
def tw13026116095433993793 := ()
def tw3391319343266191008 := ()
def tw12303686641195522192 := ()
def tw17360769294917992021 := ()
def tw7256451282805432706 := ()
def tw17030638707126573902 := ()
def tw353090427521330210 := ()
def tw14030379528298756744 := ()
def tw14487459149102004052 := ()
def tw8187439916704566510 := ()
def tw9862861371907088407 := ()
def tw15950086590236340873 := ()
def tw11441850254221657009 := ()
def tw1035207408741405888 := ()
def tw17005019136488626474 := ()
def tw3884228297139611214 := ()
def tw1221626191409796546 := ()
def tw4784294438807551140 := ()
def tw2391899414224589135 := ()
def tw6452096741458302657 := ()
def tw10568746159949432458 := ()
def tw9545254231881487881 := ()
def tw6658980747107059263 := ()
def tw4173477817551211479 := ()
def tw16732047398797034752 := ()
def tw8235320936858956143 := ()
def tw11343473865036015929 := ()
def tw7185701135806550364 := ()
def tw5755051951610313844 := ()
def tw8108027415937009159 := ()
def tw15770180946240070369 := ()
def tw9603322131299463031 := ()
def tw5360407076232353676 := ()
def tw12756580372114119151 := ()
def tw13114885188397998370 := ()
def tw2276103625754899960 := ()
def tw13773035923375861843 := ()
def tw8880475558878199427 := ()
def tw15375371920672243954 := ()
def tw9906912975584086207 := ()
def tw1298183246812548001 := ()
def tw3338408519723557155 := ()
def tw483580412827789605 := ()
def tw9786878086231332400 := ()
def tw2303274715256587546 := ()
def tw10997095759681684999 := ()
def tw4060097910551731829 := ()
def tw10911517690563764104 := ()
def tw12089138787392647198 := ()
def tw5785315496746625601 := ()
def tw17834894485732815685 := ()
def tw2565943379678021378 := ()
def tw11474214160287131410 := ()
def tw13008575567110424436 := ()
def tw16310720004643315229 := ()
def tw2652426558289851150 := ()
def tw10808986729826646209 := ()
def tw1588193631746549001 := ()
def tw6073693860219978647 := ()
def tw6534866443637715362 := ()
def tw1360210442548571520 := ()
def tw1818331257033295547 := ()
def tw140450365933359047 := ()
def tw15901217311408790222 := ()
def tw11264255150539945267 := ()
def tw10204217926178356765 := ()
def tw2501002528461509548 := ()
def tw10825872410822836839 := ()
def tw6443534255417626921 := ()
def tw13703630164638812127 := ()
def tw3998925245871273406 := ()
def tw3833718993252660752 := ()
def tw10827063171751629757 := ()
def tw16249055001540025430 := ()
def tw6535139172488807038 := ()
def tw1725193923939076365 := ()
def tw11126693210714838484 := ()
def tw12975065841161846030 := ()
def tw865647093405876878 := ()
def tw16889928003639588539 := ()
def tw8087063926995297423 := ()
def tw5990835861494703490 := ()
def tw4910457464876503537 := ()
def tw15758997251528157073 := ()
def tw17842318142458330486 := ()
def tw849164552203501900 := ()
def tw15556068246385882734 := ()
def tw12232652307867499824 := ()
def tw6322454570352924246 := ()
def tw12908807447986192385 := ()
def tw14555521586904295837 := ()
def tw11398197331193360097 := ()
def tw2063253451921001946 := ()
def tw17711299105383146299 := ()
def tw9677973695562609742 := ()
def tw14044603945263762997 := ()
def tw7814785140261296096 := ()
def tw17406078920728678848 := ()
def tw2356112903391285651 := ()
def tw2616333969894105169 := ()
def tw13791578903254086416 := ()
def tw10830490730014778181 := ()
def tw15892625433236829633 := ()
def tw11005259799650453317 := ()
def tw16352066212318397473 := ()
def tw5209058672220477990 := ()
def tw8656143892425423181 := ()
def tw6951566720761422655 := ()
def tw2189283866348051940 := ()
def tw17448462237875588704 := ()
def tw17298721563864752909 := ()
def tw12765803512943279638 := ()
def tw9917584569262956448 := ()
def tw10309035074776606452 := ()
def tw2866255925355038699 := ()
def tw8418574736179221456 := ()
def tw2249826943988091801 := ()
def tw4461909289121704634 := ()
def tw15623478277674770439 := ()
def tw6643216525050023864 := ()
def tw6690618314269617980 := ()
def tw11469956206925120012 := ()
def tw13312504284632683762 := ()
def tw13416667352597390804 := ()
def tw1270315921352433487 := ()
def tw13627097651619612467 := ()
def tw8567291124704838542 := ()
def tw8708637522081512629 := ()
def tw11123508733913373257 := ()
def tw6198253971164480714 := ()
def tw3742573747983303508 := ()
def tw12321457350081143002 := ()
def tw15193877312856302388 := ()
def tw3836826952021673023 := ()
def tw13837119848241046033 := ()
def tw14097807230011438820 := ()
def tw15224685340516868896 := ()
def tw10806856972543248320 := ()
def tw7024731640654957913 := ()
def tw1474346724177868598 := ()
def tw9079084954392485819 := ()
def tw18020335749763600379 := ()
def tw10966043225789073716 := ()
def tw10117886015988440565 := ()
def tw12343366383062061016 := ()
def tw14494704243346332003 := ()
def tw6233386674967784459 := ()
def tw625345594349472786 := ()
def tw16241175361517042141 := ()
def tw11012276159398338418 := ()
def tw9804350607399628079 := ()
def tw11412447309488114959 := ()
def tw4103079162311419423 := ()
def tw10644295714298242937 := ()
def tw13543545636605114308 := ()
def tw9692555141644874781 := ()
def tw11178282169560255544 := ()
def tw1706699230063434907 := ()
def tw1927020907671902792 := ()
def tw13305199517723372526 := ()
def tw16510088861645118681 := ()
def tw11635761846410917481 := ()
def tw10456214437916390163 := ()
def tw6496026051364721118 := ()
def tw4086595977997942230 := ()
def tw7519840313992410965 := ()
def tw824033268235085460 := ()
def tw5696536053781791738 := ()
def tw17191419569507078650 := ()
def tw180823102681009342 := ()
def tw3364139471797444595 := ()
def tw3080972663582856913 := ()
def tw10098606702597167016 := ()
def tw10071221411339915051 := ()
def tw8900058836514310699 := ()
def tw13839050565976901442 := ()
def tw16917781576685567347 := ()
def tw9070438866380004157 := ()
def tw12977559269641043685 := ()
def tw13375835344670937213 := ()
def tw7778548125640774835 := ()
def tw1228325812500651614 := ()
def tw1850364140619956052 := ()
def tw6324682095421237775 := ()
def tw9816653303646532216 := ()
def tw6380555550752506341 := ()
def tw18198179277622666527 := ()
def tw15890101591168236442 := ()
def tw14876825848038207294 := ()
def tw7470241276934005606 := ()
def tw2643325772243408377 := ()
def tw6768061024423443037 := ()
def tw5960724492914261218 := ()
def tw6502494366701162658 := ()
def tw958625561780929609 := ()
def tw2611748679957818395 := ()
def tw3176189732771184081 := ()
def tw11980547408939935036 := ()
def tw4001482325508197070 := ()
def tw14792450788793290195 := ()
def tw17372145013308235350 := ()
def tw8660072906414133655 := ()
def tw1275372941645812168 := ()
def tw10345874756477443205 := ()
def tw2468838003771756751 := ()
def tw741360256227941397 := ()
def tw5843308698813927661 := ()
def tw8106302267077817735 := ()
def tw9694375067929518900 := ()
def tw1842015534306191887 := ()
def tw17334296871297591336 := ()
def tw14952274371198171516 := ()
def tw5029338538909275296 := ()
def tw18265420472804195413 := ()
def tw14746210643340824327 := ()
def tw8269146756857817479 := ()
def tw3614499167301698498 := ()
def tw5956943798496807161 := ()
def tw6677741450098852068 := ()
def tw15516729318881407079 := ()
def tw14171572948695330323 := ()
def tw2356596230595912865 := ()
def tw7064036945326955529 := ()
def tw3416336557080545468 := ()
def tw11479414421404832270 := ()
def tw9148923085357717825 := ()
def tw6368250220969936281 := ()
def tw8052424237311192442 := ()
def tw7151205703924493848 := ()
def tw16146971988277284262 := ()
def tw7734186947612020754 := ()
def tw15711680971773863764 := ()
def tw15208007193875113288 := ()
def tw14145302686846484498 := ()
def tw3584005159503951600 := ()
def tw823869820224899766 := ()
def tw15525882370249177200 := ()
def tw2792864679113199264 := ()
def tw424239570805283721 := ()
def tw18251347880932958528 := ()
def tw16341254358141406691 := ()
def tw14534506299139637437 := ()
def tw2857752094554675432 := ()
def tw8553681782411760977 := ()
def tw17032425135928166688 := ()
def tw5256769224716380547 := ()
def tw3724400802621503699 := ()
def tw18423309635488117984 := ()
def tw17698980207234643126 := ()
def tw15329306747024256885 := ()
def tw5840351732625677662 := ()
def tw12408584651382737363 := ()
def tw17982129419579349610 := ()
def tw10715537818163014937 := ()
def tw7324860431644585496 := ()
def tw2387114294395843526 := ()
def tw1054972156824549403 := ()
def tw4322275847687937528 := ()
def tw11333255879043369685 := ()
def tw2181519816832329060 := ()
def tw10476885143023201812 := ()
def tw18255374376432364392 := ()
def tw13821030475219115165 := ()
def tw7870237592114316709 := ()
def tw9495660984933242551 := ()
def tw1611460501777449174 := ()
end PySem.W.Fast
open PySem PySem.W PyProof.Rows
set_option maxRecDepth 100000 in
set_option maxHeartbeats 0 in
theorem PySem.Challenge.cw_fewnotes_k30_which_wants_are_met_holds : PySem.Challenge.rw_fewnotes_k30_which_wants_are_met.Holds := by
  w_on; o_law; k_head; (case hw => w_witness2)
  k_fill
  refine Prf.walk (l := PySem.Challenge.rw_fewnotes_k30_which_wants_are_met) rfl rfl (fun w h Y => PySem.W.kIn_of Y) ?F
  case F =>
    intro w mg fa h KX G hmg
    replace hmg : mg (Str.ofString "law") = some (.ref fa) := hmg
    refine' Prf.all_mk KX G hmg ?a0 ?l0 ?c0 ?k0 ?a1 ?l1 ?c1 ?k1 ?a2 ?l2 ?c2 ?k2 ?a3 ?l3 ?c3 ?k3 ?a4 ?l4 ?c4 ?k4 ?a5 ?l5 ?c5 ?k5 ?a6 ?l6 ?c6 ?k6 ?a7 ?l7 ?c7 ?k7 ?a8 ?l8 ?c8 ?k8 ?a9 ?l9 ?c9 ?k9 ?a10 ?l10 ?c10 ?k10 ?a11 ?l11 ?c11 ?k11 ?a12 ?l12 ?c12 ?k12 ?a13 ?l13 ?c13 ?k13 ?a14 ?l14 ?c14 ?k14 ?a15 ?l15 ?c15 ?k15 ?a16 ?l16 ?c16 ?k16 ?a17 ?l17 ?c17 ?k17 ?a18 ?l18 ?c18 ?k18 ?a19 ?l19 ?c19 ?k19 ?a20 ?l20 ?c20 ?k20 ?a21 ?l21 ?c21 ?k21 ?a22 ?l22 ?c22 ?k22 ?a23 ?l23 ?c23 ?k23 ?xa_NoNote ?xcl_NoNote ?xty_NoNote ?xbs_NoNote ?xa_NoteError ?xcl_NoteError ?xty_NoteError ?xbs_NoteError ?xa_Held ?xcl_Held ?xty_Held ?xbs_Held ?xa_NoCut ?xcl_NoCut ?xty_NoCut ?xbs_NoCut ?xa_NoForm ?xcl_NoForm ?xty_NoForm ?xbs_NoForm ?xa_NoHand ?xcl_NoHand ?xty_NoHand ?xbs_NoHand ?xa_NoneYet ?xcl_NoneYet ?xty_NoneYet ?xbs_NoneYet ?xa_NoNumber ?xcl_NoNumber ?xty_NoNumber ?xbs_NoNumber ?xa_NoText ?xcl_NoText ?xty_NoText ?xbs_NoText ?xa_NoOrder ?xcl_NoOrder ?xty_NoOrder ?xbs_NoOrder ?xa_NoPlace ?xcl_NoPlace ?xty_NoPlace ?xbs_NoPlace ?xa_Over ?xcl_Over ?xty_Over ?xbs_Over ?xa_RowError ?xcl_RowError ?xty_RowError ?xbs_RowError ?xa_TooMany ?xcl_TooMany ?xty_TooMany ?xbs_TooMany ?xne_NoNote_NoteError ?xsb_NoNote_NoteError ?xne_NoNote_Held ?xsb_NoNote_Held ?xne_NoNote_NoCut ?xsb_NoNote_NoCut ?xne_NoNote_NoForm ?xsb_NoNote_NoForm ?xne_NoNote_NoHand ?xsb_NoNote_NoHand ?xne_NoNote_NoneYet ?xsb_NoNote_NoneYet ?xne_NoNote_NoNumber ?xsb_NoNote_NoNumber ?xne_NoNote_NoText ?xsb_NoNote_NoText ?xne_NoNote_NoOrder ?xsb_NoNote_NoOrder ?xne_NoNote_NoPlace ?xsb_NoNote_NoPlace ?xne_NoNote_Over ?xsb_NoNote_Over ?xne_NoNote_RowError ?xsb_NoNote_RowError ?xne_NoNote_TooMany ?xsb_NoNote_TooMany ?xcg ?xct ?xga_NoNote ?xgk_NoNote ?xmB_NoNote ?xca_NoNote ?xmo_NoNote ?xex_NoNote ?xve_NoNote ?z_ValueError ?z_abs ?z_all ?z_bool ?z_enumerate ?z_int ?z_isinstance ?z_len ?z_list ?z_max ?z_min ?z_range ?z_tuple
    (case xa_NoNote => k_is)
    (case xcl_NoNote => rfl)
    (case xty_NoNote => k_is)
    (case xbs_NoNote => k_is)
    (case xa_NoteError => k_is)
    (case xcl_NoteError => rfl)
    (case xty_NoteError => k_is)
    (case xbs_NoteError => k_is)
    (case xa_Held => k_is)
    (case xcl_Held => rfl)
    (case xty_Held => k_is)
    (case xbs_Held => k_is)
    (case xa_NoCut => k_is)
    (case xcl_NoCut => rfl)
    (case xty_NoCut => k_is)
    (case xbs_NoCut => k_is)
    (case xa_NoForm => k_is)
    (case xcl_NoForm => rfl)
    (case xty_NoForm => k_is)
    (case xbs_NoForm => k_is)
    (case xa_NoHand => k_is)
    (case xcl_NoHand => rfl)
    (case xty_NoHand => k_is)
    (case xbs_NoHand => k_is)
    (case xa_NoneYet => k_is)
    (case xcl_NoneYet => rfl)
    (case xty_NoneYet => k_is)
    (case xbs_NoneYet => k_is)
    (case xa_NoNumber => k_is)
    (case xcl_NoNumber => rfl)
    (case xty_NoNumber => k_is)
    (case xbs_NoNumber => k_is)
    (case xa_NoText => k_is)
    (case xcl_NoText => rfl)
    (case xty_NoText => k_is)
    (case xbs_NoText => k_is)
    (case xa_NoOrder => k_is)
    (case xcl_NoOrder => rfl)
    (case xty_NoOrder => k_is)
    (case xbs_NoOrder => k_is)
    (case xa_NoPlace => k_is)
    (case xcl_NoPlace => rfl)
    (case xty_NoPlace => k_is)
    (case xbs_NoPlace => k_is)
    (case xa_Over => k_is)
    (case xcl_Over => rfl)
    (case xty_Over => k_is)
    (case xbs_Over => k_is)
    (case xa_RowError => k_is)
    (case xcl_RowError => rfl)
    (case xty_RowError => k_is)
    (case xbs_RowError => k_is)
    (case xa_TooMany => k_is)
    (case xcl_TooMany => rfl)
    (case xty_TooMany => k_is)
    (case xbs_TooMany => k_is)
    (case xne_NoNote_NoteError => rfl)
    (case xsb_NoNote_NoteError => k_is)
    (case xne_NoNote_Held => rfl)
    (case xsb_NoNote_Held => k_is)
    (case xne_NoNote_NoCut => rfl)
    (case xsb_NoNote_NoCut => k_is)
    (case xne_NoNote_NoForm => rfl)
    (case xsb_NoNote_NoForm => k_is)
    (case xne_NoNote_NoHand => rfl)
    (case xsb_NoNote_NoHand => k_is)
    (case xne_NoNote_NoneYet => rfl)
    (case xsb_NoNote_NoneYet => k_is)
    (case xne_NoNote_NoNumber => rfl)
    (case xsb_NoNote_NoNumber => k_is)
    (case xne_NoNote_NoText => rfl)
    (case xsb_NoNote_NoText => k_is)
    (case xne_NoNote_NoOrder => rfl)
    (case xsb_NoNote_NoOrder => k_is)
    (case xne_NoNote_NoPlace => rfl)
    (case xsb_NoNote_NoPlace => k_is)
    (case xne_NoNote_Over => rfl)
    (case xsb_NoNote_Over => k_is)
    (case xne_NoNote_RowError => rfl)
    (case xsb_NoNote_RowError => k_is)
    (case xne_NoNote_TooMany => rfl)
    (case xsb_NoNote_TooMany => k_is)
    (case xcg => k_is)
    (case xct => k_is)
    (case xga_NoNote => k_is)
    (case xgk_NoNote => k_is)
    (case xmB_NoNote => k_is)
    (case xca_NoNote => k_is)
    (case xmo_NoNote => k_is)
    (case xex_NoNote => k_exc)
    (case xve_NoNote => k_is)
    (case a0 => k_is)
    (case l0 => k_is)
    (case c0 => k_is)
    (case k0 => k_is)
    (case a1 => k_is)
    (case l1 => k_is)
    (case c1 => k_is)
    (case k1 => k_is)
    (case a2 => k_is)
    (case l2 => k_is)
    (case c2 => k_is)
    (case k2 => k_is)
    (case a3 => k_is)
    (case l3 => k_is)
    (case c3 => k_is)
    (case k3 => k_is)
    (case a4 => k_is)
    (case l4 => k_is)
    (case c4 => k_is)
    (case k4 => k_is)
    (case a5 => k_is)
    (case l5 => k_is)
    (case c5 => k_is)
    (case k5 => k_is)
    (case a6 => k_is)
    (case l6 => k_is)
    (case c6 => k_is)
    (case k6 => k_is)
    (case a7 => k_is)
    (case l7 => k_is)
    (case c7 => k_is)
    (case k7 => k_is)
    (case a8 => k_is)
    (case l8 => k_is)
    (case c8 => k_is)
    (case k8 => k_is)
    (case a9 => k_is)
    (case l9 => k_is)
    (case c9 => k_is)
    (case k9 => k_is)
    (case a10 => k_is)
    (case l10 => k_is)
    (case c10 => k_is)
    (case k10 => k_is)
    (case a11 => k_is)
    (case l11 => k_is)
    (case c11 => k_is)
    (case k11 => k_is)
    (case a12 => k_is)
    (case l12 => k_is)
    (case c12 => k_is)
    (case k12 => k_is)
    (case a13 => k_is)
    (case l13 => k_is)
    (case c13 => k_is)
    (case k13 => k_is)
    (case a14 => k_is)
    (case l14 => k_is)
    (case c14 => k_is)
    (case k14 => k_is)
    (case a15 => k_is)
    (case l15 => k_is)
    (case c15 => k_is)
    (case k15 => k_is)
    (case a16 => k_is)
    (case l16 => k_is)
    (case c16 => k_is)
    (case k16 => k_is)
    (case a17 => k_is)
    (case l17 => k_is)
    (case c17 => k_is)
    (case k17 => k_is)
    (case a18 => k_is)
    (case l18 => k_is)
    (case c18 => k_is)
    (case k18 => k_is)
    (case a19 => k_is)
    (case l19 => k_is)
    (case c19 => k_is)
    (case k19 => k_is)
    (case a20 => k_is)
    (case l20 => k_is)
    (case c20 => k_is)
    (case k20 => k_is)
    (case a21 => k_is)
    (case l21 => k_is)
    (case c21 => k_is)
    (case k21 => k_is)
    (case a22 => k_is)
    (case l22 => k_is)
    (case c22 => k_is)
    (case k22 => k_is)
    (case a23 => k_is)
    (case l23 => k_is)
    (case c23 => k_is)
    (case k23 => k_is)
    (case z_ValueError => k_is)
    (case z_abs => k_is)
    (case z_all => k_is)
    (case z_bool => k_is)
    (case z_enumerate => k_is)
    (case z_int => k_is)
    (case z_isinstance => k_is)
    (case z_len => k_is)
    (case z_list => k_is)
    (case z_max => k_is)
    (case z_min => k_is)
    (case z_range => k_is)
    (case z_tuple => k_is)
#print axioms PySem.Challenge.cw_fewnotes_k30_which_wants_are_met_holds
