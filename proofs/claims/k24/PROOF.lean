import PyProof.Rows.All
import Wide.All
import OpenK.AllK
import Wide.FinOn
import Lean
import PyProof.EqAt
import PyProof.EqKinds
import PyProof.TupleCall
import PyProof.EqLayable
import PyProof.ExcArgsOwn
import PyProof.ExcAttrAll.Exception
import PyProof.RulesAs
import PyProof.ExcBaseAll.ValueError
import PyProof.NsDelKeeps
import KE.KRevSl
import PySem.Challenge.RW_fewnotes_k24_enough_or_not
set_option Elab.async false
set_option linter.all false
set_option maxRecDepth 100000
/-! THE HAND LAYER, for ints, bools, texts, own classes, LISTS and tuples (index, slices, in, append, pop ..), calls, loops. Paste it whole ahead of your own text; what your proof does not reach may be deleted. -/
namespace L2
open PySem PySem.Spec PyProof.Rows

/-- a key: an int or a str -/
abbrev Key := Sum Int Str
def keyIs : Key → Value → Bool
  | .inl k, v => Value.isInt k v
  | .inr x, v => Value.isStrOf x v
def keyH (w : World) : Key → Int
  | .inl k => hashInt k
  | .inr x => hashStr w x
theorem keyIs_shape : ∀ {k : Key} {v : Value}, keyIs k v = true → (∃ i t, k = Sum.inl i ∧ v = Value.int i t) ∨ (∃ x t, k = Sum.inr x ∧ v = Value.str x t)
  | .inl i, v, h => by
    obtain ⟨t, e⟩ := Value.isInt_shape (k := i) (v := v) h
    exact .inl ⟨i, t, rfl, e⟩
  | .inr x, v, h => by
    obtain ⟨t, e⟩ := Value.isStrOf_shape (x := x) (v := v) h
    exact .inr ⟨x, t, rfl, e⟩
theorem keyIs_int (i : Int) (t : Tok) : keyIs (.inl i) (.int i t) = true := by simp [keyIs, Value.isInt]
theorem keyIs_str (x : Str) (t : Tok) : keyIs (.inr x) (.str x t) = true := by simp [keyIs, Value.isStrOf]
theorem key_ll (a b : Int) : decide ((Sum.inl a : Key) = Sum.inl b) = (a == b) := by
  by_cases e : a = b
  · subst e; simp
  · have h : ¬ (Sum.inl a : Key) = Sum.inl b := fun q => e (Sum.inl.inj q)
    rw [decide_eq_false h]
    exact (beq_eq_false_iff_ne.mpr e).symm
theorem key_rr (a b : Str) : decide ((Sum.inr a : Key) = Sum.inr b) = decide (a = b) := by
  by_cases e : a = b
  · subst e; simp
  · have h : ¬ (Sum.inr a : Key) = Sum.inr b := fun q => e (Sum.inr.inj q)
    rw [decide_eq_false h, decide_eq_false e]
theorem key_lr (a : Int) (b : Str) : decide ((Sum.inl a : Key) = Sum.inr b) = false := decide_eq_false (fun q => nomatch q)
theorem key_rl (a : Str) (b : Int) : decide ((Sum.inr a : Key) = Sum.inl b) = false := decide_eq_false (fun q => nomatch q)

def mixKind (prog : Program) (w : World) : PySem.KeyKind prog w Key where
  is := keyIs
  hash := keyH w
  inj := fun v a b ha hb => by
    rcases keyIs_shape ha with ⟨i, t, rfl, rfl⟩ | ⟨x, t, rfl, rfl⟩
    · rcases keyIs_shape hb with ⟨j, u, rfl, e⟩ | ⟨y, u, rfl, e⟩
      · injection e with e1 _; rw [e1]
      · exact nomatch e
    · rcases keyIs_shape hb with ⟨j, u, rfl, e⟩ | ⟨y, u, rfl, e⟩
      · exact nomatch e
      · injection e with e1 _; rw [e1]
  byValue := fun k v h => by
    rcases keyIs_shape h with ⟨i, t, rfl, rfl⟩ | ⟨x, t, rfl, rfl⟩ <;> rfl
  pyHash := fun hv h => by
    rcases keyIs_shape hv with ⟨i, t, rfl, rfl⟩ | ⟨x, t, rfl, rfl⟩
    · exact wpAny_pyHash_int h
    · exact wpAny_pyHash_str h
  eqBool := fun hu hv h => by
    rcases keyIs_shape hu with ⟨i, t, rfl, rfl⟩ | ⟨x, t, rfl, rfl⟩
    · rcases keyIs_shape hv with ⟨j, u, rfl, rfl⟩ | ⟨y, u, rfl, rfl⟩
      · rw [key_ll] at h; exact wpAny_eqBool_int h
      · rw [key_lr] at h; exact SeqAt.EqAt.int_str i t y u _ _ _ _ h
    · rcases keyIs_shape hv with ⟨j, u, rfl, rfl⟩ | ⟨y, u, rfl, rfl⟩
      · rw [key_rl] at h; exact SeqAt.EqAt.str_int x t j u _ _ _ _ h
      · rw [key_rr] at h; exact wpAny_eqBool_str h
  «strs» := fun k x t v h => by
    rcases keyIs_shape h with ⟨i, u, rfl, e⟩ | ⟨y, u, rfl, e⟩
    · exact nomatch e
    · injection e with e1 _
      subst e1
      cases v <;> rfl

theorem mixKind_is (prog : Program) (w : World) (k : Key) (v : Value) : (mixKind prog w).is k v = keyIs k v := rfl
theorem mixKind_int (prog : Program) (w : World) (i : Int) (t : Tok) : (mixKind prog w).is (.inl i) (.int i t) = true := keyIs_int i t
theorem mixKind_str (prog : Program) (w : World) (x : Str) (t : Tok) : (mixKind prog w).is (.inr x) (.str x t) = true := keyIs_str x t
end L2

namespace L2
open PySem PySem.Spec PyProof.Rows

/-- a value, without the heap -/
inductive V where
  | non | bl (b : Bool) | int (i : Int) | str (x : Str) | byt (b : Array UInt8) | flt (b : UInt64) | ref (a : Addr) | ty (n : String)
  deriving DecidableEq

def RelV : V → Value → Prop
  | .non, u => u = Value.none
  | .bl b, u => u = Value.bool b
  | .int i, u => ∃ t, u = Value.int i t
  | .str x, u => ∃ t, u = Value.str x t
  | .byt b, u => ∃ t, u = Value.bytes b t
  | .flt b, u => ∃ t, u = Value.float b t
  | .ref a, u => u = Value.ref a
  | .ty n, u => u = Value.type n

abbrev Vals : List V → List Value → Prop := Paired RelV
theorem Vals.length {xs : List V} {us : List Value} (r : Vals xs us) : xs.length = us.length := Paired.length r
theorem Vals.get : ∀ {xs : List V} {us : List Value} {i : Nat} {x : V}, Vals xs us → xs[i]? = some x → ∃ u, us[i]? = some u ∧ RelV x u
  | _, _, _, _, .nil, e => by simp at e
  | _, _, 0, _, .cons r _, e => by simp at e; subst e; exact ⟨_, rfl, r⟩
  | _, _, i + 1, x, .cons _ t, e => by
    obtain ⟨u, h1, h2⟩ := Vals.get (i := i) (x := x) t (by simpa using e)
    exact ⟨u, by simpa using h1, h2⟩
theorem Vals.set {x : V} {u : Value} (r : RelV x u) : ∀ {xs : List V} {us : List Value} (i : Nat), Vals xs us → Vals (xs.set i x) (us.set i u)
  | _, _, _, .nil => .nil
  | _, _, 0, .cons _ t => .cons r t
  | _, _, i + 1, .cons q t => .cons q (Vals.set r i t)
theorem Vals.append {xs ys : List V} {us ws : List Value} (h : Vals xs us) (s : Vals ys ws) : Vals (xs ++ ys) (us ++ ws) := by
  induction h with
  | nil => exact s
  | cons r t ih => exact .cons r ih
theorem Vals.take : ∀ {xs : List V} {us : List Value} (n : Nat), Vals xs us → Vals (xs.take n) (us.take n)
  | _, _, 0, _ => .nil
  | _, _, _ + 1, .nil => .nil
  | _, _, n + 1, .cons r t => .cons r (Vals.take n t)
theorem Vals.drop : ∀ {xs : List V} {us : List Value} (n : Nat), Vals xs us → Vals (xs.drop n) (us.drop n)
  | _, _, 0, r => r
  | _, _, _ + 1, .nil => .nil
  | _, _, n + 1, .cons _ t => Vals.drop n t
def RelO : Option V → Option Value → Prop
  | some v, some u => RelV v u
  | none, none => True
  | _, _ => False
def KV {κ : Type} : List (κ × V) → List (κ × Value) → Prop := Paired fun (p : κ × V) (q : κ × Value) => p.1 = q.1 ∧ RelV p.2 q.2

/-- a key of a dict (00_mix): an int or a text -/
def kV : Key → V
  | .inl i => .int i
  | .inr x => .str x

/-- what stands at a tracked address -/
inductive HO where
  /-- a list -/
  | lst (xs : List V)
  /-- a tuple (never changes) -/
  | tup (xs : List V)
  /-- a dict whose keys are ints and texts; one whose keys are tuples of ints and texts (the empty one is both) -/
  | dK (kvs : List (Key × V)) | dT (kvs : List (List Key × V))
  /-- a set of ints: its members, its size -/
  | set (S : Int → Bool) (n : Nat)
  /-- an instance of the class at C, its dict at dx, its attributes -/
  | ins (C dx : Addr) (fs : List (Str × V))
  /-- the dict of the instance at x -/
  | own (x : Addr)
  /-- the dict of an exception -/
  | xd (fs : List (Str × V))
  /-- a bound method, f of x -/
  | met (f x : Addr)
  /-- a range object lo, lo + 1, .. below hi -/
  | rng (lo hi : Int)
  /-- a thing that is known to the object (the script; a dict while a loop walks it): read, never written while it is so -/
  | frz (o : Obj) (u : HO)
  /-- a code object's table -/
  | tbl (ps : Array Value)
  /-- any other thing, by what is true of its one object (a def of one's own: SetO a S n := HO.ext fun h => ..) -/
  | ext (φ : Heap → Prop)

abbrev Hp := Addr → Option HO
def upd (H : Hp) (a : Addr) (o : HO) : Hp := fun b => if b = a then some o else H b
theorem upd_same {H : Hp} {a : Addr} {o : HO} : upd H a o a = some o := by unfold upd; rw [if_pos rfl]
theorem upd_ne {H : Hp} {a b : Addr} {o : HO} (h : b ≠ a) : upd H a o b = H b := by unfold upd; rw [if_neg h]
theorem upd_upd {H : Hp} {a : Addr} {o u : HO} : upd (upd H a o) a u = upd H a u := by
  funext b; unfold upd; split <;> rfl
/-- two objects of different content stand apart -/
theorem ne_of {H : Hp} {a b : Addr} {o u : HO} (h : H a = some o) (h' : H b = some u) (d : o ≠ u) : a ≠ b := by
  intro e; subst e; rw [h] at h'; exact d (Option.some.inj h')
theorem ne_of_none {H : Hp} {a b : Addr} {o : HO} (h : H a = some o) (h' : H b = none) : a ≠ b := by
  intro e; subst e; rw [h] at h'; cases h'

section
variable (P : Program) (w : World)
def ObjOk (H : Hp) (h : Heap) (a : Addr) : HO → Prop
  | .lst xs => xs.length ≤ sizeLine ∧ ∃ (its : List Value) (n : Nat), Vals xs its ∧ h.get? a = some { cls := .type "list", data := .seq its.toArray n }
  | .tup xs => xs.length ≤ sizeLine ∧ ∃ its : List Value, Vals xs its ∧ IsTup h a its.toArray
  | .dK kvs => kvs.length ≤ sizeLine ∧ (a == sysModules) = false ∧ ∃ vs, KV kvs vs ∧ h.DictOf (mixKind P w) a vs
  | .dT kvs => kvs.length ≤ sizeLine ∧ (a == sysModules) = false ∧ ∃ xs : List (List Key × Addr × Value),
      Paired (fun (p : List Key × V) (q : List Key × Addr × Value) => p.1 = q.1 ∧ H q.2.1 = some (.tup (p.1.map kV)) ∧ RelV p.2 q.2.2) kvs xs ∧
      ∃ o es ep, h.get? a = some o ∧ o.ExactDict ∧ o.data = .dict es ep ∧ es.toList = xs.map (entryOfKey (tupleKind (mixKind P w))) ∧ (xs.map (·.1)).Nodup
  | .set S n => h.SetOf (intKind P w) a S n
  | .ins C dx fs => H dx = some (.own a) ∧ fs.length ≤ 1000 ∧ dx ≠ a ∧ h.get? a = some (PySem.W.instObj C dx) ∧
      ∃ mA, h.Ns1 dx mA ∧ (∀ f, RelO (fs.lookup f) (mA f)) ∧ PySem.Within mA (fs.map (·.1))
  | .own _ => ∃ o, h.get? a = some o
  | .xd fs => ∃ mA, h.Ns1 a mA ∧ ∀ f, RelO (fs.lookup f) (mA f)
  | .rng lo hi => ∃ t u v, h.get? a = some { cls := .type "range", data := .fields #[.int lo t, .int hi u, .int 1 v] }
  | .frz o u => h.get? a = some o ∧ ObjOk H h a u
  | .tbl ps => h.get? a = some { cls := .none, data := .fields ps }
  | .met f x => h.get? a = some (PySem.W.methodObj (.ref f) (.ref x))
  | .ext φ => φ h ∧ (∃ o, h.get? a = some o) ∧ ∀ h1 h2 : Heap, φ h1 → (∀ o, h1.get? a = some o → h2.get? a = some o) → φ h2
/-- the abstract heap is held -/
def HOk (H : Hp) (h : Heap) : Prop := ∀ a o, H a = some o → ObjOk P w H h a o
end

section
variable {P : Program} {w : World} {H H' : Hp} {h h' : Heap} {a : Addr} {o : HO}
theorem ObjOk.lt (x : ObjOk P w H h a o) : a < h.objs.size := by
  cases o with
  | lst xs => obtain ⟨_, _, _, _, e⟩ := x; exact Heap.lt_size e
  | tup xs => obtain ⟨_, _, _, p⟩ := x; exact p.lt
  | dK kvs => obtain ⟨_, _, _, _, o, _, _, e, _⟩ := x; exact Heap.lt_size e
  | dT kvs => obtain ⟨_, _, _, _, o, _, _, e, _⟩ := x; exact Heap.lt_size e
  | set S n => obtain ⟨o, _, _, _, e, _⟩ := x; exact Heap.lt_size e
  | ins C dx fs => obtain ⟨_, _, _, e, _⟩ := x; exact Heap.lt_size e
  | own y => obtain ⟨_, e⟩ := x; exact Heap.lt_size e
  | xd fs => obtain ⟨_, ⟨_, _, _, e, _⟩, _⟩ := x; exact Heap.lt_size e
  | rng lo hi => obtain ⟨_, _, _, e⟩ := x; exact Heap.lt_size e
  | frz ob u => obtain ⟨e, _⟩ := x; exact Heap.lt_size e
  | tbl ps => exact Heap.lt_size (show h.get? a = some _ from x)
  | met f y => exact Heap.lt_size (show h.get? a = some _ from x)
  | ext φ => obtain ⟨_, ⟨_, e⟩, _⟩ := x; exact Heap.lt_size e
theorem Paired.mapP {α β : Type} {F G : α → β → Prop} : ∀ {l₁ : List α} {l₂ : List β}, Paired F l₁ l₂ → (∀ a b, F a b → G a b) → Paired G l₁ l₂
  := by
  intro l₁ l₂ h f
  induction h with
  | nil => exact .nil
  | cons r t ih => exact .cons (f _ _ r) ih
/-- what an object's description leans on: its own object, its own dict, the tuples -/
theorem ObjOk.stay (x : ObjOk P w H h a o) (k : ∀ b u, (b = a ∨ H b = some (.own a)) → h.get? b = some u → h'.get? b = some u)
    (ho : ∀ b, H b = some (.own a) → H' b = some (.own a)) (ht : ∀ b xs, H b = some (.tup xs) → H' b = some (.tup xs)) : ObjOk P w H' h' a o := by
  induction o with
  | lst xs => obtain ⟨z, its, n, r, e⟩ := x; exact ⟨z, its, n, r, k _ _ (.inl rfl) e⟩
  | tup xs => obtain ⟨z, its, r, ob, e, c⟩ := x; exact ⟨z, its, r, ob, k _ _ (.inl rfl) e, c⟩
  | dK kvs => obtain ⟨z, y, vs, r, ob, es, ep, e, c⟩ := x; exact ⟨z, y, vs, r, ob, es, ep, k _ _ (.inl rfl) e, c⟩
  | dT kvs =>
    obtain ⟨z, y, xs, r, ob, es, ep, e, c⟩ := x
    exact ⟨z, y, xs, Paired.mapP r fun p q z => ⟨z.1, ht _ _ z.2.1, z.2.2⟩, ob, es, ep, k _ _ (.inl rfl) e, c⟩
  | set S n => obtain ⟨ob, es, ep, t, e, c⟩ := x; exact ⟨ob, es, ep, t, k _ _ (.inl rfl) e, c⟩
  | ins C dx fs =>
    obtain ⟨d, z, ne, e, mA, ⟨od, es, ep, e2, c⟩, r⟩ := x
    exact ⟨ho _ d, z, ne, k _ _ (.inl rfl) e, mA, ⟨od, es, ep, k _ _ (.inr d) e2, c⟩, r⟩
  | own y => obtain ⟨ob, e⟩ := x; exact ⟨ob, k _ _ (.inl rfl) e⟩
  | xd fs => obtain ⟨mA, ⟨od, es, ep, e, c⟩, r⟩ := x; exact ⟨mA, ⟨od, es, ep, k _ _ (.inl rfl) e, c⟩, r⟩
  | rng lo hi => obtain ⟨t, u, v, e⟩ := x; exact ⟨t, u, v, k _ _ (.inl rfl) e⟩
  | frz ob u ih => obtain ⟨e, q⟩ := x; exact ⟨k _ _ (.inl rfl) e, ih q⟩
  | tbl ps =>
    have e : h.get? a = some { cls := .none, data := .fields ps } := x
    show h'.get? a = some { cls := .none, data := .fields ps }
    exact k a _ (.inl rfl) e
  | met f y =>
    have e : h.get? a = some (PySem.W.methodObj (.ref f) (.ref y)) := x
    show h'.get? a = some (PySem.W.methodObj (.ref f) (.ref y))
    exact k a _ (.inl rfl) e
  | ext φ => obtain ⟨p, ⟨o, e⟩, st⟩ := x; exact ⟨st _ _ p fun o q => k _ _ (.inl rfl) q, ⟨o, k _ _ (.inl rfl) e⟩, st⟩
theorem HOk.lt (x : HOk P w H h) (e : H a = some o) : a < h.objs.size := (x a o e).lt
theorem HOk.fresh (x : HOk P w H h) (e : h.objs.size ≤ a) : H a = none := by
  cases q : H a with
  | none => rfl
  | some u => exact absurd (Nat.lt_of_lt_of_le (x.lt q) e) (Nat.lt_irrefl _)
/-- every object of the heap is kept -/
theorem HOk.kept (x : HOk P w H h) (k : ∀ b u, h.get? b = some u → h'.get? b = some u) : HOk P w H h' := fun a o e =>
  (x a o e).stay (fun b u _ q => k b u q) (fun _ q => q) fun _ _ q => q
/-- a new object is laid and tracked -/
theorem HOk.laid (x : HOk P w H h) (k : ∀ b u, h.get? b = some u → h'.get? b = some u) (hp : h.objs.size ≤ a) (new : ObjOk P w (upd H a o) h' a o) : HOk P w (upd H a o) h' := fun b u e => by
  have hn := x.fresh hp
  by_cases hb : b = a
  · subst hb; rw [upd_same] at e; cases e; exact new
  · rw [upd_ne hb] at e
    exact (x b u e).stay (fun c v _ q => k c v q) (fun c q => by rw [upd_ne (ne_of_none q hn)]; exact q) fun c xs q => by rw [upd_ne (ne_of_none q hn)]; exact q
end

/-- what may be read as u: it is u, or a known u -/
def Rd (H : Hp) (a : Addr) (u : HO) : Prop := H a = some u ∨ ∃ o, H a = some (.frz o u)
theorem Rd.ok {P : Program} {w : World} {H : Hp} {h : Heap} {a : Addr} {u : HO} (r : Rd H a u) (x : HOk P w H h) : ObjOk P w H h a u := by
  rcases r with r | ⟨o, r⟩
  · exact x a u r
  · obtain ⟨_, q⟩ := x a _ r
    exact q
/-- what may be written -/
def Mut : Option HO → Prop
  | some (.lst _) => True
  | some (.dK _) => True
  | some (.dT _) => True
  | some (.set _ _) => True
  | some (.ins _ _ _) => True
  | some (.ext _) => True
  | _ => False
section
variable {P : Program} {w : World} {H : Hp} {h h' : Heap} {x e : Addr} {o' : HO}
/-- the object at e is changed: x itself, or the dict of the instance x -/
theorem HOk.write (ok : HOk P w H h) (mu : Mut (H x)) (he : e = x ∨ H e = some (.own x)) (k : ∀ b u, b ≠ e → h.get? b = some u → h'.get? b = some u) (heo : ∃ u, h'.get? e = some u)
    (new : ObjOk P w (upd H x o') h' x o') : HOk P w (upd H x o') h' := fun b u q => by
  have nown : ∀ c y, H c = some (.own y) → c ≠ x := fun c y r z => by subst z; rw [r] at mu; exact mu
  have ntup : ∀ c xs, H c = some (.tup xs) → c ≠ x := fun c xs r z => by subst z; rw [r] at mu; exact mu
  by_cases hb : b = x
  · subst hb; rw [upd_same] at q; cases q; exact new
  · rw [upd_ne hb] at q
    by_cases hbe : b = e
    · have q' : H b = some (.own x) := by
        rcases he with z | z
        · exact absurd (hbe.trans z) hb
        · rw [hbe]; exact z
      rw [q] at q'; cases q'
      obtain ⟨v, hv⟩ := heo
      exact ⟨v, by rw [hbe]; exact hv⟩
    · refine (ok b u q).stay (fun c v hc r => k c v ?_ r) (fun c r => by rw [upd_ne (nown c b r)]; exact r) fun c xs r => by rw [upd_ne (ntup c xs r)]; exact r
      rcases hc with rfl | hc
      · exact hbe
      · rintro rfl
        rcases he with z | z
        · exact nown c b hc z
        · rw [hc] at z; cases z; exact hb rfl
end

/-! ### kept unless tracked; of the frames at fs (the callers') the slots may change (an exception that passes writes there); of the records at ex (iterators) nothing is said -/
structure Un (fs ex : List Addr) (H H' : Hp) (h h' : Heap) : Prop where
  keep : ∀ b o, h.get? b = some o → H b = none → b ∉ fs → b ∉ ex → h'.get? b = some o
  slot : ∀ b o, h.get? b = some o → H b = none → b ∈ fs → b ∉ ex → ∃ sl, h'.get? b = some { o with slots := sl }
  free : ∀ b o, h.get? b = some o → H b = none → b ∉ ex → H' b = none
  there : ∀ b o, h.get? b = some o → b ∉ ex → ∃ o', h'.get? b = some o'
  tups : ∀ b xs, H b = some (.tup xs) → H' b = some (.tup xs)
  frzs : ∀ b o u, H b = some (.frz o u) → H' b = some (.frz o u)
  tbls : ∀ b ps, H b = some (.tbl ps) → ∃ more, H' b = some (.tbl (ps ++ more))
section
variable {fs fs' ex ex' : List Addr} {H H1 H2 : Hp} {h h1 h2 h' : Heap} {a x e : Addr} {o : HO}
theorem Un.any (u : Un fs ex H H1 h h1) {b : Addr} {ob : Obj} (q : h.get? b = some ob) (n : H b = none) (hx : b ∉ ex) : ∃ sl, h1.get? b = some { ob with slots := sl } := by
  by_cases hb : b ∈ fs
  · exact u.slot b ob q n hb hx
  · exact ⟨ob.slots, u.keep b ob q n hb hx⟩
theorem Un.kept (k : ∀ b u, h.get? b = some u → h'.get? b = some u) : Un fs ex H H h h' :=
  ⟨fun b ob q _ _ _ => k b ob q, fun b ob q _ _ _ => ⟨ob.slots, k b ob q⟩, fun _ _ _ n _ => n, fun b ob q _ => ⟨ob, k b ob q⟩, fun _ _ q => q, fun _ _ _ q => q, fun _ ps q => ⟨#[], by rw [q]; simp⟩⟩
theorem Un.refl : Un fs ex H H h h := Un.kept fun _ _ q => q
theorem Un.laid (k : ∀ b u, h.get? b = some u → h'.get? b = some u) (hp : h.objs.size ≤ a) (hn : H a = none) : Un fs ex H (upd H a o) h h' where
  keep := fun b u q _ _ _ => k b u q
  slot := fun b u q _ _ _ => ⟨u.slots, k b u q⟩
  free := fun b u q n _ => by rw [upd_ne (Nat.ne_of_lt (Nat.lt_of_lt_of_le (Heap.lt_size q) hp))]; exact n
  there := fun b u q _ => ⟨u, k b u q⟩
  tups := fun b xs q => by rw [upd_ne (ne_of_none q hn)]; exact q
  frzs := fun b u xs q => by rw [upd_ne (ne_of_none q hn)]; exact q
  tbls := fun b ps q => ⟨#[], by rw [upd_ne (ne_of_none q hn), q]; simp⟩
theorem Un.write (mu : Mut (H x)) (he : e = x ∨ H e = some (.own x)) (k : ∀ b u, b ≠ e → h.get? b = some u → h'.get? b = some u) (heo : ∃ u, h'.get? e = some u) : Un fs ex H (upd H x o) h h' := by
  have hx : ∀ b, H b = none → b ≠ x := fun b n z => by subst z; rw [n] at mu; exact mu
  have hb : ∀ b, H b = none → b ≠ e := fun b n z => by
    subst z
    rcases he with r | r
    · exact hx b n r
    · rw [n] at r; cases r
  have hm : ∀ b u, H b = some u → ¬ Mut (some u) → b ≠ x := fun b u q nm z => by subst z; rw [q] at mu; exact nm mu
  refine ⟨fun b u q n _ _ => k b u (hb b n) q, fun b u q n _ _ => ⟨u.slots, k b u (hb b n) q⟩, fun b u q n _ => by rw [upd_ne (hx b n)]; exact n, fun b u q _ => ?_,
    fun b xs q => by rw [upd_ne (hm b _ q fun z => z)]; exact q, fun b u xs q => by rw [upd_ne (hm b _ q fun z => z)]; exact q, fun b ps q => ⟨#[], by rw [upd_ne (hm b _ q fun z => z), q]; simp⟩⟩
  by_cases hbe : b = e
  · subst hbe; exact heo
  · exact ⟨u, k b u hbe q⟩
end

/-! ### the heap without what is tracked -/
def trk (h : Heap) (H : Hp) : List Addr := (List.range h.objs.size).filter fun a => (H a).isSome
def hidT (h : Heap) (H : Hp) : Heap := PySem.W.hideAll h (trk h H)
theorem hidT_size (h : Heap) (H : Hp) : (hidT h H).objs.size = h.objs.size := PySem.W.hideAll_size _ _
theorem hidT_get {h : Heap} {H : Hp} {b : Addr} {o : Obj} (e : h.get? b = some o) (n : H b = none) : (hidT h H).get? b = some o :=
  PySem.W.hideAll_get _ e fun hm => by
    have q : (H b).isSome = true := (List.mem_filter.mp hm).2
    rw [n] at q; simp at q
theorem of_hidT {h : Heap} {H : Hp} {b : Addr} {o : Obj} (e : (hidT h H).get? b = some o) : h.get? b = some o ∧ H b = none := by
  have e' : h.get? b = some o := PySem.W.of_hideAll (trk h H) e
  refine ⟨e', ?_⟩
  cases q : H b with
  | none => rfl
  | some x =>
    have hm : b ∈ trk h H := List.mem_filter.mpr ⟨List.mem_range.mpr (Heap.lt_size e'), by simp [q]⟩
    have z : (hidT h H).get? b = none := PySem.W.hideAll_none (trk h H) hm
    rw [z] at e; cases e

/-! ### OpenK's ledger, filled with every new object but one -/
def allNews (g h : Heap) (L : Addr) : List (Addr × Obj) := (List.range h.objs.size).filterMap fun a => if a = L ∨ (g.get? a).isSome = true then none else (h.get? a).map fun o => (a, o)
def rest (g h : Heap) (L d : Addr) : List (Addr × Obj) := (allNews g h L).filter fun p => decide (p.1 ≠ d)
end L2

namespace L2
open PySem PySem.Spec PyProof.Rows

/-- the module's facts, over the base: the heap at the law's entry without what is tracked there -/
structure Mod (K : PySem.W.Frag) (mg : Str → Option Value) (base : Heap) : Prop where
  kin : K.In base
  glob : base.Ns mainGlobals mg
  blt : ∃ mb, base.Ns builtinsNs mb ∧ ∀ x : Str, x ≠ "__name__" → mb x = bootBuiltins x
  nolimit : base.NoLimit

/-- the context: a def's body (or a comprehension's block) running. base: fixed through the whole law; s₀, H₀: the entry; outer: the frames whose slots others may change (a def's callers); stack: all frames that run;
   ex: iterators that were made ahead of the entry and are walked here (a comprehension's); fn: the names whose cells were made at the entry (a def: all; a comprehension's block: its own); calm: not within an except suite; pn: pins that every state bears; xe: what is wanted of an exception that leaves the code -/
structure Cx where
  prog : Program
  w : World
  K : PySem.W.Frag
  mg : Str → Option Value
  base : Heap
  A : Around
  N : List Str
  s₀ : Shared
  H₀ : Hp
  env : Env
  outer : List Env
  stack : List Env
  ex : List Addr
  fn : Str → Bool
  calm : Bool
  pn : List (Addr × Obj)
  xe : Value → Shared → Prop
/-- the callers' frames -/
def frs (l : List Env) : List Addr := l.filterMap (·.frame)
abbrev Cx.fs (X : Cx) : List Addr := frs X.outer

def Vis (sc : Scope) (x : Str) : Prop := sc.names.lookup x = some .local ∨ sc.names.lookup x = some .cell ∨ sc.names.lookup x = some .free
def Loc (sc : Scope) (x : Str) : Prop := sc.names.lookup x = some .local ∨ sc.names.lookup x = some .cell
def Look (env : Env) (h : Heap) (m : Str → Option Value) (x : Str) (u : Value) : Prop :=
  (env.kindOf x = some .local ∧ m x = some u) ∨ ((env.kindOf x = some .cell ∨ env.kindOf x = some .free) ∧ ∃ c, env.cells.lookup x = some c ∧ h.IsCell c (some u))

structure Cx.Ok (X : Cx) : Prop where
  mod : Mod X.K X.mg X.base
  kind : X.env.scope.kind = .function
  glob : X.env.globals = mainGlobals
  blt : X.env.builtins = builtinsNs
  above : X.s₀.heap.objs.size ≤ X.env.locals
  inj : ∀ x y c, X.env.cells.lookup x = some c → X.env.cells.lookup y = some c → x = y
  has : ∀ x, (X.env.kindOf x = some .cell ∨ X.env.kindOf x = some .free) → ∃ c, X.env.cells.lookup x = some c
  cab : ∀ x c, X.fn x = true → X.env.cells.lookup x = some c → X.s₀.heap.objs.size ≤ c
  hd : X.calm = true → X.A.handled = none
  frames : X.A.frames = some X.stack
  stk : X.stack = X.outer ∨ (X.stack = X.env :: X.outer ∧ X.env.frame = some X.env.locals)
  exf : ∀ b ∈ X.ex, b ≠ X.env.locals ∧ ∀ x c, X.env.cells.lookup x = some c → c ≠ b
  bs : ∀ b o, X.base.get? b = some o → X.s₀.heap.get? b = some o ∧ X.H₀ b = none
  bsz : X.base.objs.size ≤ X.s₀.heap.objs.size
  noex : ∀ b o, X.base.get? b = some o → b ∉ X.ex
  exfs : ∀ b ∈ X.ex, b ∉ X.fs
  funs : X.s₀.heap.FunFrames X.base X.outer
  frf : ∀ b ∈ X.fs, X.H₀ b = none

structure Inv (X : Cx) (pins : List (Addr × Obj)) (σ : List (Option V)) (H : Hp) (s : Shared) : Prop where
  ok : X.Ok
  os : s.os = X.s₀.os
  bare : AllBare s.gens
  base : Un X.fs X.ex X.H₀ H X.s₀.heap s.heap
  loc : ∃ m, s.heap.Ns X.env.locals m ∧ ∀ (i : Nat) (x : Str) (v : V), X.N[i]? = some x → σ[i]? = some (some v) → Vis X.env.scope x → ∃ u, RelV v u ∧ Look X.env s.heap m x u
  cell : ∀ x c, X.env.cells.lookup x = some c → ∃ v, s.heap.IsCell c v
  free : H X.env.locals = none
  freeC : ∀ x c, X.env.cells.lookup x = some c → H c = none
  pin : ∀ p ∈ X.pn ++ pins, s.heap.get? p.1 = some p.2 ∧ H p.1 = none ∧ p.1 ≠ X.env.locals ∧ p.1 ∉ X.fs ∧ ∀ v, p.2.data ≠ .cell v
  hok : HOk X.prog X.w H s.heap
  len : σ.length = X.N.length

section
variable {X : Cx} {pins : List (Addr × Obj)} {σ : List (Option V)} {H H' : Hp} {s : Shared} {h' : Heap}

theorem Cx.Ok.nofr (ok : X.Ok) {b : Addr} {o : Obj} (e : X.base.get? b = some o) : b ∉ X.fs := fun hb => by
  have := (ok.funs.mem hb).1
  rw [e] at this; cases this
theorem Inv.bs (I : Inv X pins σ H s) : ∀ b o, X.base.get? b = some o → s.heap.get? b = some o ∧ H b = none := fun b o e =>
  ⟨I.base.keep b o (I.ok.bs b o e).1 (I.ok.bs b o e).2 (I.ok.nofr e) (I.ok.noex b o e), I.base.free b o (I.ok.bs b o e).1 (I.ok.bs b o e).2 (I.ok.noex b o e)⟩
theorem Inv.bk (I : Inv X pins σ H s) : ∀ b o, X.base.get? b = some o → s.heap.get? b = some o := fun b o e => (I.bs b o e).1
theorem Inv.mod (I : Inv X pins σ H s) : Mod X.K X.mg X.base := I.ok.mod
theorem Inv.kIn (I : Inv X pins σ H s) : X.K.In s.heap := I.ok.mod.kin.keeps I.bk
theorem Inv.lt (I : Inv X pins σ H s) : X.env.locals < s.heap.objs.size := let ⟨_, hn, _⟩ := I.loc; hn.lt
theorem Inv.sz (I : Inv X pins σ H s) : X.s₀.heap.objs.size ≤ s.heap.objs.size := Nat.le_trans I.ok.above (Nat.le_of_lt I.lt)
theorem Inv.nofs (I : Inv X pins σ H s) {a : Addr} (h : s.heap.objs.size ≤ a) : a ∉ X.fs := fun hb => by
  obtain ⟨_, o, ho, _⟩ := I.ok.funs.mem hb
  exact absurd (Nat.lt_of_lt_of_le (Heap.lt_size ho) (Nat.le_trans I.sz h)) (Nat.lt_irrefl _)
theorem Inv.cne (I : Inv X pins σ H s) : ∀ x c, X.env.cells.lookup x = some c → c ≠ X.env.locals := fun x c e z => by
  obtain ⟨v, o, ho, hd⟩ := I.cell x c e
  obtain ⟨m, ⟨o', es, ep, ho', hd', _⟩, _⟩ := I.loc
  rw [z, ho'] at ho; cases ho; rw [hd'] at hd; cases hd
theorem Inv.funs (I : Inv X pins σ H s) : s.heap.FunFrames X.base X.outer := by
  have all : ∀ (l : List Env), (∀ b ∈ frs l, b ∈ X.fs) → X.s₀.heap.FunFrames X.base l → s.heap.FunFrames X.base l := by
    intro l
    induction l with
    | nil => intro _ _; trivial
    | cons env r ih =>
      intro hs hl
      obtain ⟨hk, ⟨L, o, hf, hn, ho, hd⟩, hr⟩ := hl
      have hL : L ∈ X.fs := hs L (by unfold frs; rw [List.filterMap_cons, hf]; exact List.mem_cons_self)
      obtain ⟨sl, e⟩ := I.base.slot L o ho (I.ok.frf L hL) hL fun z => I.ok.exfs L z hL
      exact ⟨hk, ⟨L, _, hf, hn, e, hd⟩, ih (fun b hb => hs b (by unfold frs; rw [List.filterMap_cons, hf]; exact List.mem_cons_of_mem _ hb)) hr⟩
  exact all X.outer (fun _ hb => hb) I.ok.funs

/-- the frames that run, for a call -/
theorem Inv.stack (I : Inv X pins σ H s) : s.heap.FunFrames X.base X.stack := by
  rcases I.ok.stk with e | ⟨e, hf⟩
  · rw [e]; exact I.funs
  · rw [e]
    obtain ⟨m, hn, _⟩ := I.loc
    refine .cons (by rw [I.ok.kind]; decide) hf hn ?_ I.funs
    exact Heap.get?_none_of_le (Nat.le_trans I.ok.bsz I.ok.above)
theorem Inv.stkSub (I : Inv X pins σ H s) : ∀ b ∈ frs X.stack, b ∈ X.env.locals :: X.fs := fun b hb => by
  rcases I.ok.stk with e | ⟨e, hf⟩
  · rw [e] at hb; exact List.mem_cons_of_mem _ hb
  · rw [e] at hb
    unfold frs at hb
    rw [List.filterMap_cons, hf] at hb
    exact hb
theorem Inv.stkFree (I : Inv X pins σ H s) : ∀ b ∈ frs X.stack, H b = none := fun b hb => by
  rcases List.mem_cons.mp (I.stkSub b hb) with e | hb
  · rw [e]; exact I.free
  · obtain ⟨_, o, ho, _⟩ := I.ok.funs.mem hb
    exact I.base.free b o ho (I.ok.frf b hb) fun z => I.ok.exfs b z hb

/-- THE STEP: the untracked objects but the frame and the records at ch are kept (the callers' frames up to slots), the frame's map is kept, the new abstract heap is held -/
theorem Inv.step {g' : Array GenState} {t' : Nat} {d' : Drawn} {ch : List Addr} (I : Inv X pins σ H s)
    (hch : ∀ b ∈ ch, (b ∈ X.ex ∨ X.s₀.heap.objs.size ≤ b) ∧ b ≠ X.env.locals ∧ (∀ x c, X.env.cells.lookup x = some c → c ≠ b) ∧ ∀ p ∈ X.pn ++ pins, p.1 ≠ b)
    (keep : ∀ b o, b ≠ X.env.locals → b ∉ X.fs → b ∉ ch → s.heap.get? b = some o → H b = none → h'.get? b = some o)
    (slot : ∀ b o, b ≠ X.env.locals → b ∈ X.fs → b ∉ ch → s.heap.get? b = some o → H b = none → ∃ sl, h'.get? b = some { o with slots := sl }) (free : ∀ b o, b ∉ ch → s.heap.get? b = some o → H b = none → H' b = none)
    (there : ∀ b o, b ∉ ch → s.heap.get? b = some o → ∃ o', h'.get? b = some o')
    (tups : ∀ b xs, H b = some (.tup xs) → H' b = some (.tup xs)) (frzs : ∀ b o u, H b = some (.frz o u) → H' b = some (.frz o u)) (tbls : ∀ b ps, H b = some (.tbl ps) → ∃ more, H' b = some (.tbl (ps ++ more)))
    (ns : ∀ m, s.heap.Ns X.env.locals m → h'.Ns X.env.locals m) (hok : HOk X.prog X.w H' h') (hg : AllBare g') :
    Inv X pins σ H' { s with heap := h', gens := g', drawn := d', toks := t' } := by
  have neL : ∀ b o, X.s₀.heap.get? b = some o → b ≠ X.env.locals := fun b o e => Nat.ne_of_lt (Nat.lt_of_lt_of_le (Heap.lt_size e) I.ok.above)
  have neC : ∀ b o, X.s₀.heap.get? b = some o → b ∉ X.ex → b ∉ ch := fun b o e hx hb => by
    rcases (hch b hb).1 with z | z
    · exact hx z
    · exact absurd (Nat.lt_of_lt_of_le (Heap.lt_size e) z) (Nat.lt_irrefl _)
  have cellK : ∀ x c, X.env.cells.lookup x = some c → ∀ v, s.heap.IsCell c v → h'.IsCell c v := fun x c e v ⟨o, ho, hd⟩ => by
    have nch : c ∉ ch := fun z => (hch c z).2.2.1 x c e rfl
    by_cases hc : c ∈ X.fs
    · obtain ⟨sl, q⟩ := slot c o (I.cne x c e) hc nch ho (I.freeC x c e)
      exact ⟨_, q, hd⟩
    · exact ⟨o, keep c o (I.cne x c e) hc nch ho (I.freeC x c e), hd⟩
  refine ⟨I.ok, I.os, hg, ⟨fun b o e n hb hx => ?_, fun b o e n hb hx => ?_, fun b o e n hx => ?_, fun b o e hx => ?_, fun b xs e => tups b xs (I.base.tups b xs e), fun b o xs e => frzs b o xs (I.base.frzs b o xs e), fun b ps e => ?_⟩, ?_, fun x c e => ?_, ?_, fun x c e => ?_, fun p hp => ?_, hok, I.len⟩
  · exact keep b o (neL b o e) hb (neC b o e hx) (I.base.keep b o e n hb hx) (I.base.free b o e n hx)
  · obtain ⟨sl, e1⟩ := I.base.slot b o e n hb hx
    obtain ⟨sl', e2⟩ := slot b _ (neL b o e) hb (neC b o e hx) e1 (I.base.free b o e n hx)
    exact ⟨sl', e2⟩
  · obtain ⟨o', e1⟩ := I.base.there b o e hx
    exact free b o' (neC b o e hx) e1 (I.base.free b o e n hx)
  · obtain ⟨o', e1⟩ := I.base.there b o e hx
    exact there b o' (neC b o e hx) e1
  · obtain ⟨m1, e1⟩ := I.base.tbls b ps e
    obtain ⟨m2, e2⟩ := tbls b _ e1
    exact ⟨m1 ++ m2, by rw [e2, Array.append_assoc]⟩
  · obtain ⟨m, hn, hl⟩ := I.loc
    refine ⟨m, ns m hn, fun i x v e1 e2 e3 => ?_⟩
    obtain ⟨u, r, l⟩ := hl i x v e1 e2 e3
    refine ⟨u, r, ?_⟩
    rcases l with l | ⟨k, c, e, z⟩
    · exact .inl l
    · exact .inr ⟨k, c, e, cellK x c e _ z⟩
  · obtain ⟨v, z⟩ := I.cell x c e
    exact ⟨v, cellK x c e v z⟩
  · obtain ⟨m, ⟨o, _, _, ho, _⟩, _⟩ := I.loc
    exact free _ o (fun z => (hch _ z).2.1 rfl) ho I.free
  · obtain ⟨v, o, ho, hd⟩ := I.cell x c e
    exact free c o (fun z => (hch c z).2.2.1 x c e rfl) ho (I.freeC x c e)
  · obtain ⟨e, n, ne, nf, d⟩ := I.pin p hp
    have nch : p.1 ∉ ch := fun z => (hch p.1 z).2.2.2 p hp rfl
    exact ⟨keep p.1 p.2 ne nf nch e n, free p.1 p.2 nch e n, ne, nf, d⟩
/-- .. where the frame's own object is kept too -/
theorem Inv.un {t' : Nat} (I : Inv X pins σ H s) (u : Un X.fs [] H H' s.heap h') (hok : HOk X.prog X.w H' h') : Inv X pins σ H' { s with heap := h', toks := t' } := by
  obtain ⟨m, ⟨o, es, ep, ho, r⟩, _⟩ := id I.loc
  obtain ⟨sl, hL⟩ := u.any ho I.free (by simp)
  exact I.step (g' := s.gens) (d' := s.drawn) (ch := []) (fun _ z => nomatch z) (fun b o _ hb _ e n => u.keep b o e n hb (by simp)) (fun b o _ hb _ e n => u.slot b o e n hb (by simp)) (fun b o _ e n => u.free b o e n (by simp)) (fun b o _ e => u.there b o e (by simp)) u.tups u.frzs u.tbls (fun m' hm => by
    obtain ⟨o', es', ep', ho', r'⟩ := hm
    rw [ho] at ho'; cases ho'
    exact ⟨_, es', ep', hL, r'⟩) hok I.bare
/-- behind a call (or a comprehension's block): the slots of this frame may have changed too, the records at ch may have turned -/
theorem Inv.call {g' : Array GenState} {t' : Nat} {d' : Drawn} {ch : List Addr} (I : Inv X pins σ H s) (u : Un (frs X.stack) ch H H' s.heap h') (hok : HOk X.prog X.w H' h') (hg : AllBare g')
    (hch : ∀ b ∈ ch, (b ∈ X.ex ∨ X.s₀.heap.objs.size ≤ b) ∧ b ≠ X.env.locals ∧ (∀ x c, X.env.cells.lookup x = some c → c ≠ b) ∧ ∀ p ∈ X.pn ++ pins, p.1 ≠ b) :
    Inv X pins σ H' { s with heap := h', gens := g', drawn := d', toks := t' } := by
  obtain ⟨m, ⟨o, es, ep, ho, r⟩, _⟩ := id I.loc
  obtain ⟨sl, hL⟩ := u.any ho I.free fun z => (hch _ z).2.1 rfl
  exact I.step (ch := ch) hch (fun b o hL hb hc e n => u.keep b o e n (fun z => (List.mem_cons.mp (I.stkSub b z)).elim hL hb) hc) (fun b o _ _ hc e n => u.any e n hc) (fun b o hc e n => u.free b o e n hc) (fun b o hc e => u.there b o e hc) u.tups u.frzs u.tbls (fun m' hm => by
    obtain ⟨o', es', ep', ho', r'⟩ := hm
    rw [ho] at ho'; cases ho'
    exact ⟨_, es', ep', hL, r'⟩) hok hg
/-- an untracked record of ours (an iterator) has turned -/
theorem Inv.turned {t' : Nat} {it : Addr} (I : Inv X pins σ H s) (k : ∀ b o, b ≠ it → s.heap.get? b = some o → h'.get? b = some o) (hn : H it = none) (hL : it ≠ X.env.locals)
    (h1 : it ∈ X.ex ∨ X.s₀.heap.objs.size ≤ it) (h2 : ∀ x c, X.env.cells.lookup x = some c → c ≠ it) (h3 : ∀ p ∈ X.pn ++ pins, p.1 ≠ it) : Inv X pins σ H { s with heap := h', toks := t' } := by
  have nit : ∀ b u, H b = some u → b ≠ it := fun b u e z => by rw [z, hn] at e; cases e
  refine I.step (g' := s.gens) (d' := s.drawn) (ch := [it]) (fun b hb => ?_) (fun b o _ _ hc e _ => k b o (fun z => hc (by simp [z])) e) (fun b o _ _ hc e _ => ⟨o.slots, k b o (fun z => hc (by simp [z])) e⟩) (fun _ _ _ _ n => n)
    (fun b o hc e => ⟨o, k b o (fun z => hc (by simp [z])) e⟩) (fun _ _ e => e) (fun _ _ _ e => e) (fun b ps e => ⟨#[], by rw [e]; simp⟩) (fun m hm => ?_) (fun b u e => ?_) I.bare
  · have e : b = it := by simpa using hb
    subst e
    exact ⟨h1, hL, h2, h3⟩
  · obtain ⟨o, es, ep, ho, r⟩ := hm
    exact ⟨o, es, ep, k _ o (Ne.symm hL) ho, r⟩
  · refine (I.hok b u e).stay (fun c v hc q => k c v ?_ q) (fun _ q => q) fun _ _ q => q
    rcases hc with z | z
    · rw [z]; exact nit b u e
    · exact nit c _ z
theorem Inv.tok (I : Inv X pins σ H s) (t : Nat) : Inv X pins σ H { s with toks := t } := I.un (h' := s.heap) (t' := t) Un.refl I.hok
/-- all objects kept -/
theorem Inv.kept {t' : Nat} (I : Inv X pins σ H s) (k : ∀ b u, s.heap.get? b = some u → h'.get? b = some u) : Inv X pins σ H { s with heap := h', toks := t' } := I.un (Un.kept k) (I.hok.kept k)
/-- a new object laid and tracked -/
theorem Inv.laid {a : Addr} {o : HO} {t' : Nat} (I : Inv X pins σ H s) (k : ∀ b u, s.heap.get? b = some u → h'.get? b = some u) (hp : s.heap.objs.size ≤ a) (new : ObjOk X.prog X.w (upd H a o) h' a o) :
    Inv X pins σ (upd H a o) { s with heap := h', toks := t' } := I.un (Un.laid k hp (I.hok.fresh hp)) (I.hok.laid k hp new)
/-- an object written -/
theorem Inv.write {x e : Addr} {o : HO} {t' : Nat} (I : Inv X pins σ H s) (mu : Mut (H x)) (he : e = x ∨ H e = some (.own x)) (k : ∀ b u, b ≠ e → s.heap.get? b = some u → h'.get? b = some u) (heo : ∃ u, h'.get? e = some u)
    (new : ObjOk X.prog X.w (upd H x o) h' x o) : Inv X pins σ (upd H x o) { s with heap := h', toks := t' } := I.un (Un.write mu he k heo) (I.hok.write mu he k heo new)
theorem Inv.pins_of {pins' : List (Addr × Obj)} (I : Inv X pins σ H s) (h : ∀ p ∈ pins', s.heap.get? p.1 = some p.2 ∧ H p.1 = none ∧ p.1 ≠ X.env.locals ∧ p.1 ∉ X.fs ∧ ∀ v, p.2.data ≠ .cell v) : Inv X pins' σ H s :=
  ⟨I.ok, I.os, I.bare, I.base, I.loc, I.cell, I.free, I.freeC, fun p hp => (List.mem_append.mp hp).elim (fun z => I.pin p (List.mem_append_left _ z)) (h p), I.hok, I.len⟩

theorem nodup_ix {N : List Str} (hN : N.Nodup) {i j : Nat} {x : Str} (a : N[i]? = some x) (b : N[j]? = some x) : i = j := by
  obtain ⟨h1, e1⟩ := List.getElem?_eq_some_iff.mp a
  obtain ⟨h2, e2⟩ := List.getElem?_eq_some_iff.mp b
  exact (List.getElem_inj hN).mp (e1.trans e2.symm)

/-- a name is stored; what changed -/
theorem store_ok2 {M : Model} {A : Around} {E : Value → Shared → Prop} {i : Nat} {x : Str} {v : V} {u : Value} {Q : Unit → Shared → Prop} (I : Inv X pins σ H s) (hN : X.N.Nodup) (hi : X.N[i]? = some x) (hx : Loc X.env.scope x) (r : RelV v u)
    (h : ∀ s', Inv X pins (σ.set i (some v)) H s' → (∃ a, Heap.SameBut a s.heap s'.heap ∧ (a = X.env.locals ∨ X.env.cells.lookup x = some a)) → Q () s') (hf : X.fn x = true ∨ X.env.scope.names.lookup x = some .local := by first | exact .inl rfl | exact .inr rfl | assumption) : wpAny M A (storeName X.env x u) Q E s := by
  obtain ⟨m, hn, hl⟩ := id I.loc
  have hcls : (X.env.scope.kind == .class || (X.env.scope.kind == .module && X.env.locals != X.env.globals)) = false := by rw [I.ok.kind]; rfl
  have hiσ : i < σ.length := by rw [I.len]; exact (List.getElem?_eq_some_iff.mp hi).1
  have cne := I.cne
  have tracked : ∀ {a : Addr} {h' : Heap}, (∃ o, s.heap.get? a = some o ∧ H a = none) → Heap.SameBut a s.heap h' → HOk X.prog X.w H h' := fun {a h'} ha hs b ob e => by
    obtain ⟨_, _, hfree⟩ := ha
    refine (I.hok b ob e).stay (fun c w' hc q => (hs.2 c ?_).trans q) (fun _ q => q) fun _ _ q => q
    rintro rfl
    rcases hc with rfl | hc
    · rw [hfree] at e; cases e
    · rw [hfree] at hc; cases hc
  rcases hx with hk | hk
  · refine wpAny_storeName_local hk hn (fun h' hn' hs => ?_) hcls
    obtain ⟨oL, _, _, hoL, _⟩ := id hn
    refine h _ ⟨I.ok, I.os, I.bare, ⟨fun b o e n hb hx => ?_, fun b o e n hb hx => ?_, I.base.free, fun b o e hx => ?_, I.base.tups, I.base.frzs, I.base.tbls⟩, ⟨_, hn', fun j y v' e1 e2 e3 => ?_⟩, fun y c e => ?_, I.free, I.freeC, fun p hp => ?_, tracked ⟨oL, hoL, I.free⟩ hs, by simpa using I.len⟩ ⟨_, hs, .inl rfl⟩
    · exact (hs.2 b (Nat.ne_of_lt (Nat.lt_of_lt_of_le (Heap.lt_size e) I.ok.above))).trans (I.base.keep b o e n hb hx)
    · obtain ⟨sl, e1⟩ := I.base.slot b o e n hb hx
      exact ⟨sl, (hs.2 b (Nat.ne_of_lt (Nat.lt_of_lt_of_le (Heap.lt_size e) I.ok.above))).trans e1⟩
    · obtain ⟨o', e1⟩ := I.base.there b o e hx
      exact ⟨o', (hs.2 b (Nat.ne_of_lt (Nat.lt_of_lt_of_le (Heap.lt_size e) I.ok.above))).trans e1⟩
    · by_cases hj : j = i
      · subst hj
        rw [hi] at e1; cases e1
        rw [List.getElem?_set_self hiσ] at e2
        cases e2
        exact ⟨u, r, .inl ⟨hk, by simp⟩⟩
      · rw [List.getElem?_set_ne (Ne.symm hj)] at e2
        obtain ⟨u', r', q⟩ := hl j y v' e1 e2 e3
        refine ⟨u', r', ?_⟩
        rcases q with ⟨k, e⟩ | ⟨k, c, e, z⟩
        · refine .inl ⟨k, ?_⟩
          have : y ≠ x := fun e => hj (nodup_ix hN e1 (e ▸ hi))
          simp [this, e]
        · exact .inr ⟨k, c, e, z.sameBut hs (cne y c e)⟩
    · obtain ⟨w', z⟩ := I.cell y c e
      exact ⟨w', z.sameBut hs (cne y c e)⟩
    · obtain ⟨e, n, ne, nf, d⟩ := I.pin p hp
      exact ⟨(hs.2 p.1 ne).trans e, n, ne, nf, d⟩
  · have hfn : X.fn x = true := by
      rcases hf with z | z
      · exact z
      · rw [z] at hk; cases hk
    obtain ⟨c, hc⟩ := I.ok.has x (.inl hk)
    obtain ⟨w', z⟩ := I.cell x c hc
    refine wpAny_storeName_cell I.ok.kind hk hc z (fun h' hc' hs => ?_)
    obtain ⟨oc, hoc, hocd⟩ := id z
    refine h { s with heap := h' } ⟨I.ok, I.os, I.bare, ⟨fun b o e n hb hx => ?_, fun b o e n hb hx => ?_, I.base.free, fun b o e hx => ?_, I.base.tups, I.base.frzs, I.base.tbls⟩, ⟨m, hn.sameBut hs (Ne.symm (cne x c hc)), fun j y v' e1 e2 e3 => ?_⟩, fun y c' e => ?_, I.free, I.freeC, fun p hp => ?_, tracked ⟨oc, hoc, I.freeC x c hc⟩ hs, by simpa using I.len⟩ ⟨c, hs, .inr hc⟩
    · exact (hs.2 b (Nat.ne_of_lt (Nat.lt_of_lt_of_le (Heap.lt_size e) (I.ok.cab x c hfn hc)))).trans (I.base.keep b o e n hb hx)
    · obtain ⟨sl, e1⟩ := I.base.slot b o e n hb hx
      exact ⟨sl, (hs.2 b (Nat.ne_of_lt (Nat.lt_of_lt_of_le (Heap.lt_size e) (I.ok.cab x c hfn hc)))).trans e1⟩
    · obtain ⟨o', e1⟩ := I.base.there b o e hx
      exact ⟨o', (hs.2 b (Nat.ne_of_lt (Nat.lt_of_lt_of_le (Heap.lt_size e) (I.ok.cab x c hfn hc)))).trans e1⟩
    · by_cases hj : j = i
      · subst hj
        rw [hi] at e1; cases e1
        rw [List.getElem?_set_self hiσ] at e2
        cases e2
        exact ⟨u, r, .inr ⟨.inl hk, c, hc, hc'⟩⟩
      · rw [List.getElem?_set_ne (Ne.symm hj)] at e2
        obtain ⟨u', r', q⟩ := hl j y v' e1 e2 e3
        refine ⟨u', r', ?_⟩
        rcases q with q | ⟨k, c', e, z'⟩
        · exact .inl q
        · refine .inr ⟨k, c', e, z'.sameBut hs ?_⟩
          rintro rfl
          exact hj (nodup_ix hN e1 (I.ok.inj _ _ _ e hc ▸ hi))
    · by_cases hcc : c' = c
      · subst hcc; exact ⟨_, hc'⟩
      · obtain ⟨w2, z2⟩ := I.cell y c' e
        exact ⟨w2, z2.sameBut hs hcc⟩
    · obtain ⟨e, n, ne, nf, d⟩ := I.pin p hp
      refine ⟨(hs.2 p.1 ?_).trans e, n, ne, nf, d⟩
      intro q
      rw [q, hoc] at e
      have q' : oc = p.2 := Option.some.inj e
      exact d w' (by rw [← q']; exact hocd)
theorem store_ok {M : Model} {A : Around} {E : Value → Shared → Prop} {i : Nat} {x : Str} {v : V} {u : Value} {Q : Unit → Shared → Prop} (I : Inv X pins σ H s) (hN : X.N.Nodup) (hi : X.N[i]? = some x) (hx : Loc X.env.scope x) (r : RelV v u)
    (h : ∀ s', Inv X pins (σ.set i (some v)) H s' → Q () s') (hf : X.fn x = true ∨ X.env.scope.names.lookup x = some .local := by first | exact .inl rfl | exact .inr rfl | assumption) : wpAny M A (storeName X.env x u) Q E s :=
  store_ok2 I hN hi hx r (fun s' I' _ => h s' I') hf
/-- behind a call or a block, the state as it is -/
theorem Inv.call' {s' : Shared} {ch : List Addr} (I : Inv X pins σ H s) (ho : s'.os = s.os) (u : Un (frs X.stack) ch H H' s.heap s'.heap) (hok : HOk X.prog X.w H' s'.heap) (hg : AllBare s'.gens)
    (hch : ∀ b ∈ ch, (b ∈ X.ex ∨ X.s₀.heap.objs.size ≤ b) ∧ b ≠ X.env.locals ∧ (∀ x c, X.env.cells.lookup x = some c → c ≠ b) ∧ ∀ p ∈ X.pn ++ pins, p.1 ≠ b) : Inv X pins σ H' s' := by
  obtain ⟨h', g', d', t', o'⟩ := s'
  have e : o' = s.os := ho
  subst e
  exact I.call (g' := g') (t' := t') (d' := d') u hok hg hch
end

/-! ### the judgements -/
/-- an exception: its class, its own dict's address (where it has one), the abstract heap behind it -/
abbrev XK := Value → Option Addr → Hp → Prop
abbrev St := List (Option V)
abbrev VK := V → Hp → Prop
/-- an expression's reading; a test's; an argument list's -/
abbrev TE := St → Hp → VK → Prop
abbrev TT := St → Hp → (Bool → Hp → Prop) → Prop
abbrev TA := St → Hp → (List V → Hp → Prop) → Prop
/-- what is wanted behind a statement -/
structure Ends where
  nx : St → Hp → Prop
  rt : VK
  bk : St → Hp → Prop := fun _ _ => False
  ct : St → Hp → Prop := fun _ _ => False
abbrev TS := Ends → St → Hp → Prop

def EP (X : Cx) (pins : List (Addr × Obj)) (σ : St) (Q : VK) (u : Value) (s' : Shared) : Prop := ∃ v H', Inv X pins σ H' s' ∧ RelV v u ∧ Q v H'
def TP (X : Cx) (pins : List (Addr × Obj)) (σ : St) (Q : Bool → Hp → Prop) (b : Bool) (s' : Shared) : Prop := ∃ H', Inv X pins σ H' s' ∧ Q b H'
def AP (X : Cx) (pins : List (Addr × Obj)) (σ : St) (Q : List V → Hp → Prop) (us : List Value) (s' : Shared) : Prop := ∃ vs H', Inv X pins σ H' s' ∧ Vals vs us ∧ Q vs H'
def SP (X : Cx) (pins : List (Addr × Obj)) (D : Ends) (f : Flow) (s' : Shared) : Prop :=
  match f with
  | .next => ∃ σ' H', Inv X pins σ' H' s' ∧ D.nx σ' H'
  | .brk => ∃ σ' H', Inv X pins σ' H' s' ∧ D.bk σ' H'
  | .cont => ∃ σ' H', Inv X pins σ' H' s' ∧ D.ct σ' H'
  | .ret u => ∃ v σ' H', Inv X pins σ' H' s' ∧ RelV v u ∧ D.rt v H'

def PE (X : Cx) (e : Expr) (t : TE) : Prop :=
  ∀ (pins : List (Addr × Obj)) (s : Shared) (σ : St) (H : Hp) (Q : VK), Inv X pins σ H s → t σ H Q → wpAny (model X.prog X.w) X.A (eval e X.env) (EP X pins σ Q) X.xe s
def PT (X : Cx) (e : Expr) (t : TT) : Prop :=
  ∀ (pins : List (Addr × Obj)) (s : Shared) (σ : St) (H : Hp) (Q : Bool → Hp → Prop), Inv X pins σ H s → t σ H Q → wpAny (model X.prog X.w) X.A (isTrue e X.env (eval e X.env)) (TP X pins σ Q) X.xe s
/-- a test whatever its 'whole' is (and, or) -/
def PW (X : Cx) (e : Expr) (t : TT) : Prop :=
  ∀ (whole : Sem Value) (pins : List (Addr × Obj)) (s : Shared) (σ : St) (H : Hp) (Q : Bool → Hp → Prop), Inv X pins σ H s → t σ H Q → wpAny (model X.prog X.w) X.A (isTrue e X.env whole) (TP X pins σ Q) X.xe s
theorem PW.pt {X : Cx} {e : Expr} {t : TT} (h : PW X e t) : PT X e t := h _
/-- an argument list (no star), from the left -/
def PA (X : Cx) (es : List Expr) (t : TA) : Prop :=
  ∀ (pos : Pos) (pins : List (Addr × Obj)) (s : Shared) (σ : St) (H : Hp) (Q : List V → Hp → Prop), Inv X pins σ H s → t σ H Q → wpAny (model X.prog X.w) X.A (spliced (backTo pos (starEach es X.env))) (AP X pins σ Q) X.xe s
def PS (X : Cx) (st : Stmt) (t : TS) : Prop :=
  ∀ (pins : List (Addr × Obj)) (s : Shared) (σ : St) (H : Hp) (D : Ends), Inv X pins σ H s → t D σ H → wpAny (model X.prog X.w) X.A (exec st X.env) (SP X pins D) X.xe s
def PSs (X : Cx) (st : List Stmt) (t : TS) : Prop :=
  ∀ (pins : List (Addr × Obj)) (s : Shared) (σ : St) (H : Hp) (D : Ends), Inv X pins σ H s → t D σ H → wpAny (model X.prog X.w) X.A (execs st X.env) (SP X pins D) X.xe s
/-- weaken the end -/
theorem thn {α : Type} {t : Sem α} {Q Q' : α → Shared → Prop} {M : Model} {A : Around} {E : Value → Shared → Prop} {s : Shared} (h : wpAny M A t Q E s) (hQ : ∀ a s, Q a s → Q' a s) : wpAny M A t Q' E s := wpAny_mono h hQ fun _ _ x => x
end L2

namespace L2
open PySem PySem.Spec PyProof.Rows
section
variable {X : Cx}

/-! ### names and constants -/
def tVar (i : Nat) : TE := fun σ H Q => ∃ v, σ[i]? = some (some v) ∧ Q v H
def tC (v : V) : TE := fun _ H Q => Q v H
theorem pe_var {i : Nat} {x : Str} {pos : Pos} (hN : X.N[i]? = some x) (hv : Vis X.env.scope x) (hd : (x == ("__debug__" : Str)) = false := by decide) (hcd : (x == ("__classdict__" : Str)) = false := by decide) : PE X (.Name x pos) (tVar i) := by
  intro pins s σ H Q I h
  obtain ⟨v, e, h⟩ := h
  obtain ⟨m, hn, hl⟩ := I.loc
  obtain ⟨u, r, l⟩ := hl i x v hN e hv
  have fin : EP X pins σ Q u s := ⟨v, H, I, r, h⟩
  rcases l with ⟨hk, hm⟩ | ⟨hk, c, hc, hcell⟩
  · exact wpAny_Name (wpAny_loadName_local I.ok.kind hk hn hm fin) hd
  · rcases hk with hk | hk
    · exact wpAny_Name (wpAny_loadName_cell I.ok.kind hk hc hcell fin) hd
    · exact wpAny_Name (wpAny_loadName_free I.ok.kind hk hc hcell fin hcd) hd
theorem pe_int {i j pos} : PE X (.Constant (.int i) j pos) (tC (.int i)) := fun _ _ _ H _ I h => wpAny_Constant_int ⟨.int i, H, I.tok _, ⟨_, rfl⟩, h⟩
theorem pe_bl {b j pos} : PE X (.Constant (.bool b) j pos) (tC (.bl b)) := fun _ _ _ H _ I h => Constant_bool ⟨.bl b, H, I, rfl, h⟩
theorem pe_str {x j pos} : PE X (.Constant (.str x) j pos) (tC (.str x)) := fun _ _ _ H _ I h => Calls.Constant_str ⟨.str x, H, I.tok _, ⟨_, rfl⟩, h⟩

/-- a global name of the def -/
def Gl (X : Cx) (x : Str) : Prop := X.env.kindOf x = some .globalImplicit
theorem ld_glob {E : Value → Shared → Prop} {pins : List (Addr × Obj)} {s : Shared} {σ : St} {H : Hp} {x : Str} {u : Value} {pos : Pos} {Q : Value → Shared → Prop} (I : Inv X pins σ H s) (hg : Gl X x) (hm : X.mg x = some u) (h : Q u s)
    (hd : (x == ("__debug__" : Str)) = false := by decide) : wpAny (model X.prog X.w) X.A (eval (.Name x pos) X.env) Q E s :=
  Calls.Name_function_global I.ok.kind hg (Calls.loadGlobal_global (by rw [I.ok.glob]; exact I.mod.glob.keeps I.bk) hm h) hd
theorem ld_blt {E : Value → Shared → Prop} {pins : List (Addr × Obj)} {s : Shared} {σ : St} {H : Hp} {x : Str} {u : Value} {pos : Pos} {Q : Value → Shared → Prop} (I : Inv X pins σ H s) (hg : Gl X x) (hm : X.mg x = none) (hv : bootBuiltins x = some u) (h : Q u s)
    (hn : x ≠ "__name__" := by decide) (hd : (x == ("__debug__" : Str)) = false := by decide) : wpAny (model X.prog X.w) X.A (eval (.Name x pos) X.env) Q E s := by
  obtain ⟨mb, h1, h2⟩ := I.mod.blt
  exact Calls.Name_function_global I.ok.kind hg (Calls.loadGlobal_builtin (by rw [I.ok.glob]; exact I.mod.glob.keeps I.bk) hm (by rw [I.ok.blt]; exact h1.keeps I.bk) ((h2 x hn).trans hv) h) hd
theorem pe_bltn {x : Str} {v : V} {u : Value} {pos : Pos} (hg : Gl X x) (hm : X.mg x = none) (hv : bootBuiltins x = some u) (r : RelV v u) (hn : x ≠ "__name__" := by decide) (hd : (x == ("__debug__" : Str)) = false := by decide) : PE X (.Name x pos) (tC v) :=
  fun _ _ _ H _ I h => ld_blt I hg hm hv ⟨v, H, I, r, h⟩ hn hd

/-! ### arithmetic -/
variable {a b : Expr} {ta tb : TE} {pos : Pos}
/-! ### comparisons -/
def PC (X : Cx) (op : CmpOp) (a b : Expr) (t : TE) : Prop :=
  ∀ (pins : List (Addr × Obj)) (s : Shared) (σ : St) (H : Hp) (Q : VK), Inv X pins σ H s → t σ H Q →
    wpAny (model X.prog X.w) X.A (eval a X.env) (fun v s₁ => wpAny (model X.prog X.w) X.A (eval b X.env) (fun u s₂ => wpAny (model X.prog X.w) X.A (compareOp op v u) (EP X pins σ Q) X.xe s₂) X.xe s₁) X.xe s
theorem nobehind (b : Expr) {op : CmpOp} (h : op ≠ .In) (h2 : op ≠ .NotIn) : behindInMarks op b = false := by
  have e1 : (op == CmpOp.In) = false := by cases op <;> first | rfl | exact absurd rfl h
  have e2 : (op == CmpOp.NotIn) = false := by cases op <;> first | rfl | exact absurd rfl h2
  cases b <;> simp [behindInMarks, e1, e2]
/-- a comparison as a value, as a test -/
def tB (t : TE) : TT := fun σ H Q => t σ H fun x H1 => ∃ c, x = .bl c ∧ Q c H1
theorem pt_cmp {op : CmpOp} {t : TE} (h : PC X op a b t) (h1 : behindInMarks op b = false := by first | exact nobehind _ (by decide) (by decide) | rfl) : PT X (.Compare a [op] [b] pos) (tB t) := by
  intro pins s σ H Q I hw
  refine wpAny_isTrue_Compare1 (thn (h pins s σ H _ I hw) fun v s1 h1 => thn h1 fun u s2 h2 => thn h2 fun c s3 ⟨x, H1, I1, r1, q1⟩ => ?_) h1
  obtain ⟨d, rfl, q⟩ := q1
  cases r1
  exact wpAny_truthy_bool ⟨H1, I1, q⟩
/-- an expression whose value is a bool, as a test -/
theorem pt_val {e : Expr} {t : TE} (h : PE X e t) (he : ∀ whole, isTrue e X.env whole = (do let v ← whole; standAt e.pos; holding [v] (truthy v)) := by intro _; rfl) : PT X e (tB t) := by
  intro pins s σ H Q I hw
  refine isTrue_plain (thn (h pins s σ H _ I hw) fun v s1 ⟨x, H1, I1, r1, q1⟩ => ?_) (he _)
  obtain ⟨d, rfl, q⟩ := q1
  cases r1
  exact wpAny_truthy_bool ⟨H1, I1, q⟩

/-! ### and, or, not -/
variable {tA tB' : TT} {rest : List Expr}
def tAnd (t u : TT) : TT := fun σ H Q => t σ H fun c H1 => if c = true then u σ H1 Q else Q false H1
def tOr (t u : TT) : TT := fun σ H Q => t σ H fun c H1 => if c = true then Q true H1 else u σ H1 Q
def tNot (t : TT) : TT := fun σ H Q => t σ H fun c H1 => Q (!c) H1
theorem pw_and1 (ha : PT X a tA) : PW X (.BoolOp .And [a] pos) tA := by
  intro wh pins s σ H Q I h
  refine isTrue_and (thn (ha pins s σ H Q I h) fun c s1 e => ?_)
  cases c with
  | true => exact isTrue_and_nil e
  | false => exact e
theorem pw_or1 (ha : PT X a tA) : PW X (.BoolOp .Or [a] pos) tA := by
  intro wh pins s σ H Q I h
  refine isTrue_or (thn (ha pins s σ H Q I h) fun c s1 e => ?_)
  cases c with
  | false => exact isTrue_or_nil e
  | true => exact e
theorem pw_and (ha : PT X a tA) (hb : PW X (.BoolOp .And (b :: rest) pos) tB') : PW X (.BoolOp .And (a :: b :: rest) pos) (tAnd tA tB') := by
  intro wh pins s σ H Q I h
  refine isTrue_and (thn (ha pins s σ H _ I h) fun c s1 ⟨H1, I1, q1⟩ => ?_)
  cases c with
  | true => exact hb wh pins s1 σ H1 Q I1 q1
  | false => exact ⟨H1, I1, q1⟩
theorem pw_or (ha : PT X a tA) (hb : PW X (.BoolOp .Or (b :: rest) pos) tB') : PW X (.BoolOp .Or (a :: b :: rest) pos) (tOr tA tB') := by
  intro wh pins s σ H Q I h
  refine isTrue_or (thn (ha pins s σ H _ I h) fun c s1 ⟨H1, I1, q1⟩ => ?_)
  cases c with
  | true => exact ⟨H1, I1, q1⟩
  | false => exact hb wh pins s1 σ H1 Q I1 q1
theorem pt_not (ha : PT X a tA) : PT X (.UnaryOp .Not a pos) (tNot tA) := by
  intro pins s σ H Q I h
  exact isTrue_not (ha pins s σ H (fun c H1 => Q (!c) H1) I h)
/-- .. as values (bools) -/
def tAndV (ta tb : TE) : TE := fun σ H Q => ta σ H fun x H1 => ∃ c, x = .bl c ∧ if c = true then tb σ H1 Q else Q (.bl false) H1
def tOrV (ta tb : TE) : TE := fun σ H Q => ta σ H fun x H1 => ∃ c, x = .bl c ∧ if c = true then Q (.bl true) H1 else tb σ H1 Q
def tNotV (ta : TE) : TE := fun σ H Q => ta σ H fun x H1 => ∃ c, x = .bl c ∧ Q (.bl (!c)) H1
theorem pe_one {op} {t : TE} (h : PE X a t) : PE X (.BoolOp op [a] pos) t := fun pins s σ H Q I hw => BoolOp_one (h pins s σ H Q I hw)
theorem pe_and (ha : PE X a ta) (hb : PE X (.BoolOp .And (b :: rest) pos) tb) : PE X (.BoolOp .And (a :: b :: rest) pos) (tAndV ta tb) := by
  intro pins s σ H Q I h
  refine BoolOp_and (thn (ha pins s σ H _ I h) fun v s1 ⟨x, H1, I1, r1, q1⟩ => ?_)
  obtain ⟨c, rfl, q1⟩ := q1
  cases r1
  refine wpAny_truthy_bool ?_
  cases c with
  | true => exact hb pins s1 σ H1 Q I1 q1
  | false => exact ⟨.bl false, H1, I1, rfl, q1⟩
theorem pe_or (ha : PE X a ta) (hb : PE X (.BoolOp .Or (b :: rest) pos) tb) : PE X (.BoolOp .Or (a :: b :: rest) pos) (tOrV ta tb) := by
  intro pins s σ H Q I h
  refine BoolOp_or (thn (ha pins s σ H _ I h) fun v s1 ⟨x, H1, I1, r1, q1⟩ => ?_)
  obtain ⟨c, rfl, q1⟩ := q1
  cases r1
  refine wpAny_truthy_bool ?_
  cases c with
  | false => exact hb pins s1 σ H1 Q I1 q1
  | true => exact ⟨.bl true, H1, I1, rfl, q1⟩
theorem pe_not (ha : PE X a ta) : PE X (.UnaryOp .Not a pos) (tNotV ta) := by
  intro pins s σ H Q I h
  refine UnaryOp_ (thn (ha pins s σ H _ I h) fun v s1 ⟨x, H1, I1, r1, q1⟩ => ?_)
  obtain ⟨c, rfl, q1⟩ := q1
  cases r1
  exact not_of (wpAny_truthy_bool ⟨.bl (!c), H1, I1, rfl, q1⟩)
end
end L2

namespace L2
open PySem PySem.Spec PyProof.Rows

/-! ### a list, a tuple that is read: tracked, frozen, or an object of the module -/
def SqL (K : PySem.W.Frag) (H : Hp) (a : Addr) (xs : List V) : Prop :=
  Rd H a (.lst xs) ∨
    ∃ (o : Obj) (its : Array Value) (n : Nat), K.lookup a = some o ∧ o.cls = .type "list" ∧ o.dict = none ∧ o.data = .seq its n ∧ its.size ≤ sizeLine ∧ Vals xs its.toList
def SqT (K : PySem.W.Frag) (H : Hp) (a : Addr) (xs : List V) : Prop :=
  Rd H a (.tup xs) ∨
    ∃ (o : Obj) (its : Array Value) (n : Nat), K.lookup a = some o ∧ o.cls = .type "tuple" ∧ o.data = .seq its n ∧ its.size ≤ sizeLine ∧ Vals xs its.toList
def absV : Value → Option V
  | .none => some .non
  | .bool b => some (.bl b)
  | .int i _ => some (.int i)
  | .str x _ => some (.str x)
  | .bytes b _ => some (.byt b)
  | .float b _ => some (.flt b)
  | .ref a => some (.ref a)
  | .type n => some (.ty n)
  | _ => none
theorem RelV.abs {x : V} {u : Value} (r : RelV x u) : absV u = some x := by
  cases x with
  | non => cases r; rfl
  | bl _ => cases r; rfl
  | int _ => obtain ⟨t, rfl⟩ := r; rfl
  | str _ => obtain ⟨t, rfl⟩ := r; rfl
  | byt _ => obtain ⟨t, rfl⟩ := r; rfl
  | flt _ => obtain ⟨t, rfl⟩ := r; rfl
  | ref _ => cases r; rfl
  | ty _ => cases r; rfl
theorem RelV.inj {x y : V} {u : Value} (r : RelV x u) (q : RelV y u) : x = y := Option.some.inj (r.abs.symm.trans q.abs)
theorem Vals.inj {xs ys : List V} {us : List Value} (h : Vals xs us) (h' : Vals ys us) : xs = ys := by
  induction h generalizing ys with
  | nil => cases h'; rfl
  | cons r t ih => cases h' with
    | cons r' t' => rw [r.inj r', ih t']
section
variable {X : Cx} {pins : List (Addr × Obj)} {σ : St} {H : Hp} {s : Shared} {a : Addr} {xs ys : List V}
theorem SqL.of {K : PySem.W.Frag} (h : H a = some (.lst xs)) : SqL K H a xs := .inl (.inl h)
theorem SqT.of {K : PySem.W.Frag} (h : H a = some (.tup xs)) : SqT K H a xs := .inl (.inl h)
theorem Inv.list (I : Inv X pins σ H s) (h : SqL X.K H a xs) : ∃ its : List Value, Vals xs its ∧ PlainL s.heap a its.toArray ∧ xs.length ≤ sizeLine := by
  rcases h with h | ⟨o, its, n, hk, hc, hd, hs, hz, r⟩
  · obtain ⟨z, its, n, r, e⟩ := h.ok I.hok
    exact ⟨its, r, ⟨_, n, e, rfl, rfl, rfl⟩, z⟩
  · refine ⟨its.toList, r, ⟨o, n, I.kIn a o hk, hc, hd, by simpa using hs⟩, ?_⟩
    have e := r.length
    simp only [Array.length_toList] at e
    omega
theorem Inv.tuple (I : Inv X pins σ H s) (h : SqT X.K H a xs) : ∃ its : List Value, Vals xs its ∧ IsTup s.heap a its.toArray ∧ xs.length ≤ sizeLine := by
  rcases h with h | ⟨o, its, n, hk, hc, hs, hz, r⟩
  · obtain ⟨z, its, r, p⟩ := h.ok I.hok
    exact ⟨its, r, p, z⟩
  · refine ⟨its.toList, r, ⟨o, I.kIn a o hk, hc, n, by simpa using hs⟩, ?_⟩
    have e := r.length
    simp only [Array.length_toList] at e
    omega
theorem Inv.list_inj (I : Inv X pins σ H s) (h : SqL X.K H a xs) (h' : SqL X.K H a ys) : xs = ys := by
  obtain ⟨its, r, ⟨o, n, e, _, _, d⟩, _⟩ := I.list h
  obtain ⟨its', r', ⟨o', n', e', _, _, d'⟩, _⟩ := I.list h'
  rw [e] at e'; cases e'
  rw [d] at d'
  injection d' with d1 _
  have : its = its' := by simpa using congrArg Array.toList d1
  subst this
  exact r.inj r'
theorem Inv.tuple_inj (I : Inv X pins σ H s) (h : SqT X.K H a xs) (h' : SqT X.K H a ys) : xs = ys := by
  obtain ⟨its, r, ⟨o, e, _, n, d⟩, _⟩ := I.tuple h
  obtain ⟨its', r', ⟨o', e', _, n', d'⟩, _⟩ := I.tuple h'
  rw [e] at e'; cases e'
  rw [d] at d'
  injection d' with d1 _
  have : its = its' := by simpa using congrArg Array.toList d1
  subst this
  exact r.inj r'
end

/-! ### another wish about exceptions -/
abbrev Cx.wish (X : Cx) (E : Value → Shared → Prop) : Cx := { X with xe := E }
/-- no exception leaves -/
abbrev Cx.nox (X : Cx) : Cx := X.wish fun _ _ => False
theorem Cx.Ok.wish {X : Cx} (ok : X.Ok) (E : Value → Shared → Prop) : (X.wish E).Ok :=
  ⟨ok.mod, ok.kind, ok.glob, ok.blt, ok.above, ok.inj, ok.has, ok.cab, ok.hd, ok.frames, ok.stk, ok.exf, ok.bs, ok.bsz, ok.noex, ok.exfs, ok.funs, ok.frf⟩
theorem Cx.Ok.unwish {X : Cx} {E : Value → Shared → Prop} (ok : (X.wish E).Ok) : X.Ok :=
  ⟨ok.mod, ok.kind, ok.glob, ok.blt, ok.above, ok.inj, ok.has, ok.cab, ok.hd, ok.frames, ok.stk, ok.exf, ok.bs, ok.bsz, ok.noex, ok.exfs, ok.funs, ok.frf⟩
section
variable {X : Cx} {pins : List (Addr × Obj)} {σ : St} {H : Hp} {s : Shared} {E : Value → Shared → Prop}
theorem Inv.wish (I : Inv X pins σ H s) (E : Value → Shared → Prop) : Inv (X.wish E) pins σ H s := ⟨I.ok.wish E, I.os, I.bare, I.base, I.loc, I.cell, I.free, I.freeC, I.pin, I.hok, I.len⟩
theorem Inv.unwish (I : Inv (X.wish E) pins σ H s) : Inv X pins σ H s := ⟨I.ok.unwish, I.os, I.bare, I.base, I.loc, I.cell, I.free, I.freeC, I.pin, I.hok, I.len⟩
theorem SP.unwish {D : Ends} {f : Flow} {s' : Shared} (h : SP (X.wish E) pins D f s') : SP X pins D f s' := by
  cases f with
  | next => obtain ⟨σ', H', I, q⟩ := h; exact ⟨σ', H', I.unwish, q⟩
  | brk => obtain ⟨σ', H', I, q⟩ := h; exact ⟨σ', H', I.unwish, q⟩
  | cont => obtain ⟨σ', H', I, q⟩ := h; exact ⟨σ', H', I.unwish, q⟩
  | ret u => obtain ⟨v, σ', H', I, r, q⟩ := h; exact ⟨v, σ', H', I.unwish, r, q⟩
theorem PSs.nox {st : List Stmt} {t : TS} (h : PSs X.nox st t) : PSs X st t := fun pins s σ H D I hw =>
  wpAny_mono (h pins s σ H D (I.wish _) hw) (fun _ _ q => q.unwish) fun _ _ z => False.elim z
end

/-! ### blocks and small statements -/
section
variable {X : Cx} {st : Stmt} {rest : List Stmt} {t u : TS} {e : Expr} {te : TE} {pos : Pos}
def tNext : TS := fun D σ H => D.nx σ H
def tSeq (t u : TS) : TS := fun D σ H => t { D with nx := u D } σ H
theorem pss_nil : PSs X [] tNext := fun _ _ σ H _ I h => wpAny_execs_nil ⟨σ, H, I, h⟩
theorem pss_cons (h1 : PS X st t) (h2 : PSs X rest u) : PSs X (st :: rest) (tSeq t u) := by
  intro pins s σ H D I h
  refine wpAny_execs_cons (thn (h1 pins s σ H { D with nx := u D } I h) fun f s1 q => ?_)
  cases f with
  | next =>
    obtain ⟨σ', H', I', q⟩ := q
    exact h2 pins s1 σ' H' D I' q
  | ret v => exact q
  | brk => exact q
  | cont => exact q
theorem pss_one (h1 : PS X st t) : PSs X [st] t := by
  intro pins s σ H D I h
  refine wpAny_execs_cons (thn (h1 pins s σ H D I h) fun f s1 q => ?_)
  cases f with
  | next => exact wpAny_execs_nil q
  | ret v => exact q
  | brk => exact q
  | cont => exact q
/-- in a def's body nothing is shown -/
theorem Inv.quiet {pins : List (Addr × Obj)} {σ : St} {H : Hp} {s : Shared} (I : Inv X pins σ H s) : interactive X.env = false := by simp [interactive, I.ok.kind]
/-- an expression whose value is dropped -/
def tDrop (te : TE) : TS := fun D σ H => te σ H fun _ H1 => D.nx σ H1
theorem ps_expr (he : PE X e te) (hs : swapsWith e none pos.line X.env = pure false := by rfl) : PS X (.Expr e pos) (tDrop te) := by
  intro pins s σ H D I h
  exact wpAny_Expr_any (thn (he pins s σ H _ I h) fun v s1 ⟨x, H1, I1, r1, q1⟩ => ⟨σ, H1, I1, q1⟩) I.quiet hs
def tRet (te : TE) : TS := fun D σ H => te σ H D.rt
theorem ps_ret (he : PE X e te) : PS X (.Return (some e) pos) (tRet te) := by
  intro pins s σ H D I h
  exact wpAny_Return_some (thn (he pins s σ H _ I h) fun v s1 ⟨x, H1, I1, r1, q1⟩ => ⟨x, σ, H1, I1, r1, q1⟩)
def tIfS (c : TT) (t u : TS) : TS := fun D σ H => c σ H fun b H1 => if b = true then t D σ H1 else u D σ H1
theorem ps_if {c : Expr} {a b : List Stmt} {tc : TT} (hc : PT X c tc) (ha : PSs X a t) (hb : PSs X b u) : PS X (.If c a b pos) (tIfS tc t u) := by
  intro pins s σ H D I h
  refine wpAny_If (thn (hc pins s σ H _ I h) fun d s1 ⟨H1, I1, q1⟩ => ?_)
  cases d with
  | true => exact ha pins s1 σ H1 D I1 q1
  | false => exact hb pins s1 σ H1 D I1 q1
/-- code that the proof never comes to -/
def tNever : TS := fun _ _ _ => False
theorem ps_never : PS X st tNever := fun _ _ _ _ _ _ h => h.elim
end

/-! ### targets -/
abbrev TG := V → St → Hp → (St → Hp → Prop) → Prop
abbrev TGs := List V → St → Hp → (St → Hp → Prop) → Prop
def PG (X : Cx) (target : Expr) (t : TG) : Prop :=
  ∀ (pins : List (Addr × Obj)) (s : Shared) (σ : St) (H : Hp) (v : V) (u : Value) (Q : St → Hp → Prop), Inv X pins σ H s → RelV v u → t v σ H Q →
    wpAny (model X.prog X.w) X.A (assign target X.env u) (fun _ s' => ∃ σ' H', Inv X pins σ' H' s' ∧ Q σ' H') X.xe s
/-- several targets, one after another -/
def PGs (X : Cx) (ts : List Expr) (t : TGs) : Prop :=
  ∀ (pins : List (Addr × Obj)) (s : Shared) (σ : St) (H : Hp) (vs : List V) (us : List Value) (Q : St → Hp → Prop), Inv X pins σ H s → Vals vs us → t vs σ H Q →
    wpAny (model X.prog X.w) X.A (assignInOrder ((assignEach ts X.env).map (·.2)) us) (fun _ s' => ∃ σ' H', Inv X pins σ' H' s' ∧ Q σ' H') X.xe s
/-- o[i] = v, by values -/
abbrev TSet := V → V → V → Hp → (Hp → Prop) → Prop
def PSet (X : Cx) (t : TSet) : Prop :=
  ∀ (pins : List (Addr × Obj)) (s : Shared) (σ : St) (H : Hp) (o i v : V) (ov iv u : Value) (Q : Hp → Prop), Inv X pins σ H s → RelV o ov → RelV i iv → RelV v u → t o i v H Q →
    wpAny (model X.prog X.w) X.A (setItem ov iv u) (fun _ s' => ∃ H', Inv X pins σ H' s' ∧ Q H') X.xe s
section
variable {X : Cx} {pos : Pos}
def gName (i : Nat) : TG := fun v σ H Q => Q (σ.set i (some v)) H
theorem pg_name {i : Nat} {x : Str} (hN : X.N.Nodup) (hi : X.N[i]? = some x) (hx : Loc X.env.scope x) (hf : X.fn x = true ∨ X.env.scope.names.lookup x = some .local := by first | exact .inl rfl | exact .inr rfl | assumption) : PG X (.Name x pos) (gName i) := by
  intro pins s σ H v u Q I r h
  exact wpAny_assign_Name (store_ok I hN hi hx r (fun s' I' => ⟨_, H, I', h⟩) hf)
def gNil : TGs := fun vs σ H Q => vs = [] ∧ Q σ H
def gCons (t : TG) (u : TGs) : TGs := fun vs σ H Q => ∃ v r, vs = v :: r ∧ t v σ H fun σ' H' => u r σ' H' Q
theorem pgs_nil : PGs X [] gNil := by
  intro pins s σ H vs us Q I r h
  obtain ⟨e, h⟩ := h
  subst e
  cases r
  exact assignInOrder_nil ⟨σ, H, I, h⟩
theorem pgs_cons {e : Expr} {es : List Expr} {t : TG} {u : TGs} (h1 : PG X e t) (h2 : PGs X es u)
    (hs : (assignEach (e :: es) X.env).map (·.2) = assign e X.env :: (assignEach es X.env).map (·.2) := by rfl) : PGs X (e :: es) (gCons t u) := by
  intro pins s σ H vs us Q I r h
  obtain ⟨v, vr, e1, h⟩ := h
  subst e1
  cases r with
  | cons r rr =>
    rw [hs]
    refine assignInOrder_cons (thn (h1 pins s σ H _ _ _ I r h) fun _ s1 ⟨σ1, H1, I1, q1⟩ => ?_)
    exact h2 pins s1 σ1 H1 _ _ Q I1 rr q1
/-- (a, b, ..) = a tuple of that length -/
def gTup (K : PySem.W.Frag) (n : Nat) (t : TGs) : TG := fun v σ H Q => ∃ a xs, v = .ref a ∧ SqT K H a xs ∧ xs.length = n ∧ t xs σ H Q
theorem pg_tup {es : List Expr} {k : Nat} {t : TGs} {n : Nat} (hc : X.calm = true) (h : PGs X es t)
    (hn : (assignEach es X.env).length = n := by rfl) (hst : (assignEach es X.env).findIdx? (·.1) = none := by rfl) : PG X (.Tuple es k pos) (gTup X.K n t) := by
  intro pins s σ H v u Q I r hw
  obtain ⟨a, xs, e1, hq, hl, hw⟩ := hw
  subst e1
  cases r
  obtain ⟨its, rv, ht, hz⟩ := I.tuple hq
  refine assign_Tuple_tuple (I.ok.hd hc) ht (by simp [hn, ← hl, rv.length]) hst fun h' hx => ?_
  have I1 : Inv X pins σ H { s with heap := h' } := I.kept (t' := s.toks) fun b o e => hx b o (Nat.ne_of_lt (Heap.lt_size e)) e
  exact h pins _ σ H xs _ Q I1 (by simpa using rv) hw
/-- o[i] = .. -/
def gSub (to ti : TE) (t : TSet) : TG := fun v σ H Q => to σ H fun o H1 => ti σ H1 fun i H2 => t o i v H2 fun H3 => Q σ H3
theorem pg_sub {o i : Expr} {to ti : TE} {t : TSet} (ho : PE X o to) (hi : PE X i ti) (hs : PSet X t)
    (ha : ∀ v, assign (.Subscript o i pos) X.env v = (do
      let ov ← holding [v] (eval o X.env)
      let iv ← holding [v, ov] (eval i X.env)
      standAt pos
      holding [v, ov, iv] (setItem ov iv v)
      release [v, ov, iv] []) := by intro _; rfl) : PG X (.Subscript o i pos) (gSub to ti t) := by
  intro pins s σ H v u Q I r h
  rw [ha]
  refine wpAny_bind (wpAny_holding (thn (ho pins s σ H _ I h) fun ov s1 ⟨x, H1, I1, r1, q1⟩ => ?_))
  refine wpAny_bind (wpAny_holding (thn (hi pins s1 σ H1 _ I1 q1) fun iv s2 ⟨y, H2, I2, r2, q2⟩ => ?_))
  refine wpAny_bind (wpAny_standAt (wpAny_bind (wpAny_holding (thn (hs pins s2 σ H2 x y v ov iv u _ I2 r1 r2 r q2) fun _ s3 ⟨H3, I3, q3⟩ => ?_))))
  exact wpAny_release ⟨σ, H3, I3, q3⟩
/-- target = value -/
def tAsg (te : TE) (g : TG) : TS := fun D σ H => te σ H fun x H1 => g x σ H1 D.nx
theorem ps_asg {tg e : Expr} {te : TE} {g : TG} (he : PE X e te) (hg : PG X tg g) (hs : swapsWithSole [tg] e pos.line X.env = pure false := by rfl) (hw : swappedStores [tg] e X.env = pure none := by rfl)
    (h1 : (assignEach [tg] X.env).map (·.2) = [assign tg X.env] := by rfl) : PS X (.Assign [tg] e pos) (tAsg te g) := by
  intro pins s σ H D I h
  refine wpAny_Assign_stores (thn (he pins s σ H _ I h) fun v s1 ⟨x, H1, I1, r1, q1⟩ => ?_) hs hw
  rw [h1]
  exact thn (hg pins s1 σ H1 x v _ I1 r1 q1) fun _ s2 q => q
/-- name = value -/
theorem ps_set {i : Nat} {x : Str} {e : Expr} {te : TE} {pos' : Pos} (hN : X.N.Nodup) (hi : X.N[i]? = some x) (hx : Loc X.env.scope x) (he : PE X e te) (hs : swapsWith e (some (.Name x pos')) pos.line X.env = pure false := by rfl) (hf : X.fn x = true ∨ X.env.scope.names.lookup x = some .local := by first | exact .inl rfl | exact .inr rfl | assumption) :
    PS X (.Assign [.Name x pos'] e pos) (tAsg te (gName i)) := by
  intro pins s σ H D I h
  refine wpAny_Assign_Name (thn (he pins s σ H _ I h) fun v s1 ⟨y, H1, I1, r1, q1⟩ => ?_) hs
  exact store_ok I1 hN hi hx r1 (fun s2 I2 => ⟨_, H1, I2, q1⟩) hf
end

/-! ### while -/
section
variable {X : Cx} {pos : Pos}
end

/-! ### what a loop or a comprehension walks -/
/-- at turn i: it yields x (the heap may grow), or it stops -/
structure It where
  go : Nat → Hp → Prop
  yld : Nat → Hp → V → Hp → Prop
  stop : Nat → Hp → Prop
/-- the iterator's own objects may turn: they are not the frame's, not pinned, younger than the entry (or a comprehension's own) -/
def FpOk (X : Cx) (pins : List (Addr × Obj)) (H : Hp) (b : Addr) : Prop :=
  H b = none ∧ b ≠ X.env.locals ∧ b ∉ X.fs ∧ (b ∈ X.ex ∨ X.s₀.heap.objs.size ≤ b) ∧ (∀ x c, X.env.cells.lookup x = some c → c ≠ b) ∧ ∀ p ∈ X.pn ++ pins, p.1 ≠ b
theorem Inv.fpOk {X : Cx} {pins : List (Addr × Obj)} {σ : St} {H H' : Hp} {s : Shared} {b : Addr} (I : Inv X pins σ H s) (hb : s.heap.objs.size ≤ b) (hn : H' b = none) : FpOk X pins H' b := by
  refine ⟨hn, Nat.ne_of_gt (Nat.lt_of_lt_of_le I.lt hb), I.nofs hb, .inr (Nat.le_trans I.sz hb), fun x c e z => ?_, fun p hp z => ?_⟩
  · obtain ⟨v, q⟩ := I.cell x c e
    exact absurd (Nat.lt_of_lt_of_le q.lt (by rw [z]; exact hb)) (Nat.lt_irrefl _)
  · exact absurd (Nat.lt_of_lt_of_le (Heap.lt_size (I.pin p hp).1) (by rw [z]; exact hb)) (Nat.lt_irrefl _)
structure Turn (P : Program) (w : World) (K : PySem.W.Frag) (tg : Expr) (J : It) (fp : List Addr) (it : Addr) (tn : Nat → Heap → Prop) : Prop where
  mem : it ∈ fp
  obj : ∀ i h, tn i h → ∀ b ∈ fp, ∃ o, h.get? b = some o ∧ ∀ v, o.data ≠ .cell v
  keep : ∀ i h h', tn i h → (∀ b ∈ fp, ∀ o, h.get? b = some o → h'.get? b = some o) → tn i h'
  item : ∀ (X : Cx), X.prog = P → X.w = w → X.K = K → X.calm = true → ∀ (i : Nat) (pins : List (Addr × Obj)) (s : Shared) (σ : St) (H : Hp) (E : Value → Shared → Prop), Inv X pins σ H s → (∀ b ∈ fp, FpOk X pins H b) → tn i s.heap → J.go i H →
    wpAny (model P w) X.A (pyNext (.ref it)) (fun r s1 => ∃ u, r = some u ∧
      wpAny (model P w) X.A (letOwnedTupleGo tg (.ref it) u) (fun _ s2 => ∃ x H', Inv X pins σ H' s2 ∧ RelV x u ∧ J.yld i H x H' ∧ tn (i + 1) s2.heap ∧ ∀ b ∈ fp, H' b = none) E s1) E s
  done : ∀ (X : Cx), X.prog = P → X.w = w → X.K = K → X.calm = true → ∀ (i : Nat) (pins : List (Addr × Obj)) (s : Shared) (σ : St) (H : Hp) (E : Value → Shared → Prop), Inv X pins σ H s → (∀ b ∈ fp, FpOk X pins H b) → tn i s.heap → J.stop i H →
    wpAny (model P w) X.A (pyNext (.ref it)) (fun r s1 => r = none ∧ Inv X pins σ H s1) E s
  self : ∀ (A : Around) (i : Nat) (s : Shared) (Q : Value → Shared → Prop) (E : Value → Shared → Prop), tn i s.heap → Q (.ref it) s → wpAny (model P w) A (pyIter (.ref it)) Q E s
abbrev TI := St → Hp → (It → Hp → Prop) → Prop
/-- an iterator has come -/
def PIE (X : Cx) (pins : List (Addr × Obj)) (σ : St) (tg : Expr) (R : It → Hp → Prop) (itv : Value) (s2 : Shared) : Prop :=
  ∃ (it : Addr) (fp : List Addr) (tn : Nat → Heap → Prop) (J : It) (H' : Hp), itv = .ref it ∧ Inv X pins σ H' s2 ∧ Turn X.prog X.w X.K tg J fp it tn ∧ tn 0 s2.heap ∧ (∀ b ∈ fp, FpOk X pins H' b) ∧ R J H'
def PI (X : Cx) (tg iter : Expr) (wi : TI) : Prop :=
  ∀ (pins : List (Addr × Obj)) (s : Shared) (σ : St) (H : Hp) (R : It → Hp → Prop), Inv X pins σ H s → wi σ H R →
    wpAny (model X.prog X.w) X.A (eval iter X.env) (fun v s1 => wpAny (model X.prog X.w) X.A (pyIter v) (PIE X pins σ tg R) X.xe s1) X.xe s

/-- the step ahead of the store is nothing for an iterator that keeps no tuple -/
theorem go_of {M : Model} {A : Around} {E : Value → Shared → Prop} {s : Shared} {tg : Expr} {it : Addr} {u : Value} {o : Obj} {n : String} {vs : Array Value} {Q : Unit → Shared → Prop} (ho : s.heap.get? it = some o) (hc : o.cls = .type n) (hd : o.data = .fields vs)
    (hn : ["enumerate", "zip", "dict_itemiterator", "dict_reverseitemiterator", "odict_iterator", "itertools.zip_longest", "itertools.pairwise"].contains n = false) (hQ : Q () s) : wpAny M A (letOwnedTupleGo tg (.ref it) u) Q E s := by
  unfold letOwnedTupleGo
  cases tg <;> first
    | exact wpAny_pure hQ
    | (cases u <;> first
        | exact wpAny_pure hQ
        | (refine wpAny_bind (wpAny_load ho ?_)
           rw [hc, hd]
           show wpAny M A (if (["enumerate", "zip", "dict_itemiterator", "dict_reverseitemiterator", "odict_iterator", "itertools.zip_longest", "itertools.pairwise"].contains n && vs[0]? == some (rawInt _)) = true then _ else _) Q E s
           rw [if_neg (by intro h; rw [hn, Bool.false_and] at h; cases h)]
           exact wpAny_pure hQ))

/-- the list at a, as it stands at each turn (a loop may append to it) -/
def Itl (K : PySem.W.Frag) (a : Addr) : It :=
  ⟨fun i H => ∃ xs x, SqL K H a xs ∧ xs[i]? = some x, fun i H x H' => H' = H ∧ ∀ xs, SqL K H a xs → xs[i]? = some x, fun i H => ∃ xs, SqL K H a xs ∧ xs.length ≤ i⟩
def Itt (K : PySem.W.Frag) (a : Addr) : It :=
  ⟨fun i H => ∃ xs x, SqT K H a xs ∧ xs[i]? = some x, fun i H x H' => H' = H ∧ ∀ xs, SqT K H a xs → xs[i]? = some x, fun i H => ∃ xs, SqT K H a xs ∧ xs.length ≤ i⟩
/-- lo, lo + 1, .. (n of them) -/
def Itr (lo : Int) (n : Nat) : It := ⟨fun i _ => i < n, fun i H x H' => H' = H ∧ x = .int (lo + i), fun i _ => n ≤ i⟩
theorem turn_list {P : Program} {w : World} {K : PySem.W.Frag} {tg : Expr} (a it : Addr) : Turn P w K tg (Itl K a) [it] it (fun i h => h.IsListIter it a i) where
  mem := by simp
  obj := fun i h st b hb => by
    have e : b = it := by simpa using hb
    subst e
    obtain ⟨o, e, c, d⟩ := st
    exact ⟨o, e, fun v z => by rw [d] at z; cases z⟩
  keep := fun i h h' st k => st.at fun o e => k it (by simp) o e
  item := by
    intro X hP hw hK hc i pins s σ H E I hf st hg
    subst hP hw hK
    obtain ⟨xs, x, hq, hx⟩ := hg
    obtain ⟨its, rv, p, hz⟩ := I.list hq
    obtain ⟨u, hu, ru⟩ := rv.get hx
    obtain ⟨f0, f1, f2, f3, f4, f5⟩ := hf it (by simp)
    refine wpAny_pyNext_list_item st p.isList (x := u) (by simpa using hu) fun h' st' sb => ?_
    have I1 : Inv X pins σ H { s with heap := h' } := I.turned (t' := s.toks) (fun b o hb e => (sb.2 b hb).trans e) f0 f1 f3 f4 f5
    obtain ⟨o, e, c, d⟩ := id st'
    exact ⟨u, rfl, go_of (s := { s with heap := h' }) e c d (by decide) ⟨x, H, I1, ru, ⟨rfl, fun ys hy => by rw [I.list_inj hy hq]; exact hx⟩, st', fun b hb => (hf b hb).1⟩⟩
  done := by
    intro X hP hw hK hc i pins s σ H E I hf st hg
    subst hP hw hK
    obtain ⟨xs, hq, hx⟩ := hg
    obtain ⟨its, rv, p, hz⟩ := I.list hq
    obtain ⟨f0, f1, f2, f3, f4, f5⟩ := hf it (by simp)
    have hl := rv.length
    exact wpAny_pyNext_list_end (I.ok.hd hc) st p.isList (by simp; omega) fun h' eb => ⟨rfl, I.turned (t' := s.toks) (fun b o hb e => eb b o hb e) f0 f1 f3 f4 f5⟩
  self := fun _ _ _ _ _ st h => wpAny_pyIter_listiter st h
theorem turn_tuple {P : Program} {w : World} {K : PySem.W.Frag} {tg : Expr} (a it : Addr) : Turn P w K tg (Itt K a) [it] it (fun i h => h.IsTupleIter it a i) where
  mem := by simp
  obj := fun i h st b hb => by
    have e : b = it := by simpa using hb
    subst e
    obtain ⟨o, e, c, d⟩ := st
    exact ⟨o, e, fun v z => by rw [d] at z; cases z⟩
  keep := fun i h h' st k => st.at fun o e => k it (by simp) o e
  item := by
    intro X hP hw hK hc i pins s σ H E I hf st hg
    subst hP hw hK
    obtain ⟨xs, x, hq, hx⟩ := hg
    obtain ⟨its, rv, p, hz⟩ := I.tuple hq
    obtain ⟨u, hu, ru⟩ := rv.get hx
    obtain ⟨f0, f1, f2, f3, f4, f5⟩ := hf it (by simp)
    refine wpAny_pyNext_tuple_item st (show s.heap.IsTuple a its.toArray from p) (x := u) (by simpa using hu) fun h' st' sb => ?_
    have I1 : Inv X pins σ H { s with heap := h' } := I.turned (t' := s.toks) (fun b o hb e => (sb.2 b hb).trans e) f0 f1 f3 f4 f5
    obtain ⟨o, e, c, d⟩ := id st'
    exact ⟨u, rfl, go_of (s := { s with heap := h' }) e c d (by decide) ⟨x, H, I1, ru, ⟨rfl, fun ys hy => by rw [I.tuple_inj hy hq]; exact hx⟩, st', fun b hb => (hf b hb).1⟩⟩
  done := by
    intro X hP hw hK hc i pins s σ H E I hf st hg
    subst hP hw hK
    obtain ⟨xs, hq, hx⟩ := hg
    obtain ⟨its, rv, p, hz⟩ := I.tuple hq
    obtain ⟨f0, f1, f2, f3, f4, f5⟩ := hf it (by simp)
    have hl := rv.length
    exact wpAny_pyNext_tuple_end (I.ok.hd hc) st (show s.heap.IsTuple a its.toArray from p) (by simp; omega) fun h' eb => ⟨rfl, I.turned (t' := s.toks) (fun b o hb e => eb b o hb e) f0 f1 f3 f4 f5⟩
  self := fun _ _ _ _ _ st h => wpAny_pyIter_tupleiter st h
theorem turn_range {P : Program} {w : World} {K : PySem.W.Frag} {tg : Expr} (it : Addr) (lo : Int) (n : Nat) : Turn P w K tg (Itr lo n) [it] it (fun i h => IsRangeIter h it (lo + (i : Nat) * 1) ((n : Int) - (i : Nat)) 1) where
  mem := by simp
  obj := fun i h st b hb => by
    have e : b = it := by simpa using hb
    subst e
    exact ⟨_, st, fun v z => by
      have z' : Data.fields _ = Data.cell v := z
      cases z'⟩
  keep := fun i h h' st k => k it (by simp) _ st
  item := by
    intro X hP hw hK hc i pins s σ H E I hf st hg
    subst hP hw hK
    obtain ⟨f0, f1, f2, f3, f4, f5⟩ := hf it (by simp)
    have W := Walks.range (prog := X.prog) (w := X.w) (I.ok.hd hc) it lo 1 n
    refine W.item i s _ _ hg st fun v h' tk hv st' kk => ?_
    obtain ⟨t, rfl⟩ := hv
    have I1 : Inv X pins σ H { s with heap := h', toks := tk } := I.turned (fun b o hb e => kk b o (by simpa using hb) e) f0 f1 f3 f4 f5
    refine ⟨_, rfl, go_of (s := { s with heap := h', toks := tk }) (n := "range_iterator") st' rfl rfl (by decide) ⟨.int (lo + i), H, I1, ⟨t, ?_⟩, ⟨rfl, rfl⟩, st', fun b hb => (hf b hb).1⟩⟩
    rw [Int.mul_one]
  done := by
    intro X hP hw hK hc i pins s σ H E I hf st hg
    subst hP hw hK
    obtain ⟨f0, f1, f2, f3, f4, f5⟩ := hf it (by simp)
    exact wpAny_pyNext_range_end (I.ok.hd hc) st (by have : n ≤ i := hg; omega) fun h' eb => ⟨rfl, I.turned (t' := s.toks) (fun b o hb e => eb b o hb e) f0 f1 f3 f4 f5⟩
  self := fun _ _ _ _ _ st h => wpAny_pyIter_rangeiter st h
end L2

namespace L2
open PySem PySem.Spec PyProof.Rows
section
variable {X : Cx} {tg : Expr}
def iList (K : PySem.W.Frag) (tl : TE) : TI := fun σ H R => tl σ H fun x H1 => ∃ a, x = .ref a ∧ (∃ xs, SqL K H1 a xs) ∧ R (Itl K a) H1
def iTup (K : PySem.W.Frag) (tl : TE) : TI := fun σ H R => tl σ H fun x H1 => ∃ a, x = .ref a ∧ (∃ xs, SqT K H1 a xs) ∧ R (Itt K a) H1
theorem pi_list {l : Expr} {tl : TE} (hl : PE X l tl) : PI X tg l (iList X.K tl) := by
  intro pins s σ H R I h
  refine thn (hl pins s σ H _ I h) fun v s1 ⟨x, H1, I1, r1, q1⟩ => ?_
  obtain ⟨a, e, ⟨xs, hq⟩, q⟩ := q1
  subst e
  cases r1
  obtain ⟨its, rv, p, hz⟩ := I1.list hq
  refine wpAny_pyIter_list p.isList ?_
  refine ⟨s1.heap.objs.size, [s1.heap.objs.size], _, _, H1, rfl, I1.kept (t' := s1.toks) fun b o e => Heap.get?_push_of_some _ e, turn_list a _, ⟨_, Heap.get?_push_size _ rfl, rfl, rfl⟩, fun b hb => ?_, q⟩
  have e : b = s1.heap.objs.size := by simpa using hb
  subst e
  exact I1.fpOk (Nat.le_refl _) (I1.hok.fresh (Nat.le_refl _))
theorem pi_tup {l : Expr} {tl : TE} (hl : PE X l tl) : PI X tg l (iTup X.K tl) := by
  intro pins s σ H R I h
  refine thn (hl pins s σ H _ I h) fun v s1 ⟨x, H1, I1, r1, q1⟩ => ?_
  obtain ⟨a, e, ⟨xs, hq⟩, q⟩ := q1
  subst e
  cases r1
  obtain ⟨its, rv, p, hz⟩ := I1.tuple hq
  refine wpAny_pyIter_tuple (show s1.heap.IsTuple a its.toArray from p) ?_
  refine ⟨s1.heap.objs.size, [s1.heap.objs.size], _, _, H1, rfl, I1.kept (t' := s1.toks) fun b o e => Heap.get?_push_of_some _ e, turn_tuple a _, ⟨_, Heap.get?_push_size _ rfl, rfl, rfl⟩, fun b hb => ?_, q⟩
  have e : b = s1.heap.objs.size := by simpa using hb
  subst e
  exact I1.fpOk (Nat.le_refl _) (I1.hok.fresh (Nat.le_refl _))
/-- a range object just made, walked -/
theorem range_it {pins : List (Addr × Obj)} {σ : St} {H : Hp} {s : Shared} {R : It → Hp → Prop} {E : Value → Shared → Prop} {lo hi : Int} {t u v : Tok} {tk : Nat} (I : Inv X pins σ H s) (h1 : -(2 ^ 62) ≤ lo) (h2 : lo < 2 ^ 62) (h3 : -(2 ^ 62) ≤ hi) (h4 : hi < 2 ^ 62)
    (q : R (Itr lo (hi - lo).toNat) H) : wpAny (model X.prog X.w) X.A (pyIter (.ref s.heap.objs.size)) (PIE X pins σ tg R) E { s with heap := s.heap.push { cls := .type "range", data := .fields #[.int lo t, .int hi u, .int 1 v] }, toks := tk } := by
  refine wpAny_pyIter_range (IsRange.new ..) (small_one h1 h2 h3 h4) ?_
  have I1 : Inv X pins σ H { s with heap := s.heap.push { cls := .type "range", data := .fields #[.int lo t, .int hi u, .int 1 v] }, toks := tk } := I.kept fun b o e => Heap.get?_push_of_some _ e
  refine ⟨(s.heap.push { cls := .type "range", data := .fields #[.int lo t, .int hi u, .int 1 v] }).objs.size, [(s.heap.push { cls := .type "range", data := .fields #[.int lo t, .int hi u, .int 1 v] }).objs.size], _, _, H, rfl,
    I1.kept (t' := tk) fun b o e => Heap.get?_push_of_some _ e, turn_range _ lo (hi - lo).toNat, ?_, fun b hb => ?_, q⟩
  · have e1 : lo + ((0 : Nat) : Int) * 1 = lo := by simp
    have e2 : (((hi - lo).toNat : Nat) : Int) - ((0 : Nat) : Int) = Builtin.Range.rangeSize lo hi 1 := by rw [rangeSize_one]; split <;> omega
    show IsRangeIter _ _ (lo + ((0 : Nat) : Int) * 1) ((((hi - lo).toNat : Nat) : Int) - ((0 : Nat) : Int)) 1
    rw [e1, e2]
    exact Heap.get?_push_size _ rfl
  · have e : b = (s.heap.push { cls := .type "range", data := .fields #[.int lo t, .int hi u, .int 1 v] }).objs.size := by simpa using hb
    subst e
    exact I1.fpOk (Nat.le_refl _) (I1.hok.fresh (Nat.le_refl _))
def iRng1 (ta : TA) : TI := fun σ H R => ta σ H fun vs H1 => ∃ j : Int, vs = [.int j] ∧ -(2 ^ 62) ≤ j ∧ j < 2 ^ 62 ∧ R (Itr 0 j.toNat) H1
def iRng2 (ta : TA) : TI := fun σ H R => ta σ H fun vs H1 => ∃ i j : Int, vs = [.int i, .int j] ∧ (-(2 ^ 62) ≤ i ∧ i < 2 ^ 62 ∧ -(2 ^ 62) ≤ j ∧ j < 2 ^ 62) ∧ R (Itr i (j - i).toNat) H1
theorem pi_range1 {a : Expr} {ta : TA} {p pos : Pos} (hg : Gl X "range") (hm : X.mg "range" = none) (ha : PA X [a] ta) (hs : starEach [a] X.env = [(false, eval a X.env)] := by rfl) : PI X tg (.Call (.Name "range" p) [a] [] pos) (iRng1 ta) := by
  intro pins s σ H R I h
  refine Call_ (ld_blt I hg hm boot_range (PyProof.Rows.callWith_type1 (thn (ha pos pins s σ H _ I h) fun us s1 ⟨vs, H1, I1, r1, q1⟩ => ?_) hs rfl))
  obtain ⟨j, e, q1, q2, q⟩ := q1
  subst e
  cases r1 with
  | cons r rr =>
    cases rr
    obtain ⟨t, rfl⟩ := r
    exact call_range_1 (range_it I1 (by omega) (by omega) q1 q2 (by simpa using q))
theorem pi_range2 {a b : Expr} {ta : TA} {p pos : Pos} (hg : Gl X "range") (hm : X.mg "range" = none) (ha : PA X [a, b] ta) (hs : starEach [a, b] X.env = [(false, eval a X.env), (false, eval b X.env)] := by rfl) (hs2 : starEach [b] X.env = [(false, eval b X.env)] := by rfl) :
    PI X tg (.Call (.Name "range" p) [a, b] [] pos) (iRng2 ta) := by
  intro pins s σ H R I h
  refine Call_ (ld_blt I hg hm boot_range (PyProof.Rows.callWith_type1 (thn (ha pos pins s σ H _ I h) fun us s1 ⟨vs, H1, I1, r1, q1⟩ => ?_) (by rw [hs, hs2]) (by rw [hs2]; rfl)))
  obtain ⟨i, j, e, ⟨q1, q2, q3, q4⟩, q⟩ := q1
  subst e
  cases r1 with
  | cons r rr =>
    cases rr with
    | cons r' rr =>
      cases rr
      obtain ⟨t, rfl⟩ := r
      obtain ⟨t', rfl⟩ := r'
      exact call_range_2 (range_it I1 q1 q2 q3 q4 q)

/-! ### for -/
/-- W: the invariant by the turn and a measure; N: what the body is to reach -/
def tFor (wi : TI) (g : TG) (tb : TS) : TS := fun D σ H => wi σ H fun J H1 => ∃ W : Nat → Nat → St → Hp → Prop, (∃ m, W 0 m σ H1) ∧ ∀ i m σ H, W i m σ H →
  (J.stop i H ∧ D.nx σ H) ∨ (J.go i H ∧ ∃ N : St → Hp → Prop, (∀ σ' H', N σ' H' → ∃ m', m' < m ∧ W (i + 1) m' σ' H') ∧ ∀ x H', J.yld i H x H' → g x σ H' fun σ2 H2 => tb { D with nx := N, ct := N, bk := D.nx } σ2 H2)
/-- the records at fp as they stand -/
def pinsAt (fp : List Addr) (h : Heap) : List (Addr × Obj) := fp.filterMap fun b => (h.get? b).map fun o => (b, o)
theorem mem_pinsAt {fp : List Addr} {h : Heap} {b : Addr} {o : Obj} (hb : b ∈ fp) (e : h.get? b = some o) : (b, o) ∈ pinsAt fp h := List.mem_filterMap.mpr ⟨b, hb, by rw [e]; rfl⟩
theorem of_pinsAt {fp : List Addr} {h : Heap} {p : Addr × Obj} (hp : p ∈ pinsAt fp h) : p.1 ∈ fp ∧ h.get? p.1 = some p.2 := by
  obtain ⟨b, hb, e⟩ := List.mem_filterMap.mp hp
  cases q : h.get? b with
  | none => rw [q] at e; cases e
  | some o =>
    rw [q] at e
    have e' : (b, o) = p := Option.some.inj e
    subst e'
    exact ⟨hb, q⟩
theorem Inv.pinned {pins : List (Addr × Obj)} {σ : St} {H : Hp} {s : Shared} {fp : List Addr} (I : Inv X pins σ H s) (hf : ∀ b ∈ fp, FpOk X pins H b) (ho : ∀ b ∈ fp, ∃ o, s.heap.get? b = some o ∧ ∀ v, o.data ≠ .cell v) : Inv X (pins ++ pinsAt fp s.heap) σ H s :=
  I.pins_of fun p hp => (List.mem_append.mp hp).elim (fun z => I.pin p (List.mem_append_right _ z)) fun z => by
    obtain ⟨hb, e⟩ := of_pinsAt z
    obtain ⟨f0, f1, f2, _⟩ := hf p.1 hb
    obtain ⟨o, e', d⟩ := ho p.1 hb
    rw [e] at e'; cases e'
    exact ⟨e, f0, f1, f2, d⟩
theorem Inv.unpinned {pins pl : List (Addr × Obj)} {σ : St} {H : Hp} {s : Shared} (I : Inv X (pins ++ pl) σ H s) : Inv X pins σ H s := I.pins_of fun p hp => I.pin p (List.mem_append_right _ (List.mem_append_left _ hp))
theorem ps_for {iter : Expr} {body : List Stmt} {wi : TI} {g : TG} {tb : TS} {pos : Pos} (hp : PassesOwn (model X.prog X.w) X.A X.env X.xe) (hc : X.calm = true) (hi : PI X tg iter wi) (hg : PG X tg g) (hb : PSs X body tb)
    (hs : ∀ x, foldedSetIterable iter X.env x = pure x := by intro _; rfl) : PS X (.For tg iter body [] pos) (tFor wi g tb) := by
  intro pins s σ H D I h
  refine wpAny_For (thn (hi pins s σ H _ I h) fun v s1 h1 => thn h1 fun itv s2 h2 => ?_) hs
  obtain ⟨it, fp, tn, J, H2, e, I2, T, st2, f2, W, ⟨m0, w0⟩, turn⟩ := h2
  subst e
  -- what stays true of the iterator's objects through the loop
  have stat : ∀ {H' : Hp}, (∀ b ∈ fp, H' b = none) → ∀ b ∈ fp, FpOk X pins H' b := fun hn b hb => ⟨hn b hb, (f2 b hb).2⟩
  refine codeAny_forLoop_any (fun n s' => ∃ i σ' H', Inv X pins σ' H' s' ∧ tn i s'.heap ∧ (∀ b ∈ fp, H' b = none) ∧ W i n σ' H') ?_ m0 ⟨0, σ, H2, I2, st2, fun b hb => (f2 b hb).1, w0⟩
  rintro n s3 ⟨i, σ3, H3, I3, st3, fr3, w3⟩
  rcases turn i n σ3 H3 w3 with ⟨stop, qn⟩ | ⟨go, N, hN, step⟩
  · refine wpAny_passesOwn hp (thn (T.done X rfl rfl rfl hc i pins s3 σ3 H3 X.xe I3 (stat fr3) st3 stop) fun r s4 ⟨hr, I4⟩ => ?_)
    subst hr
    exact wpAny_execs_nil ⟨σ3, H3, I4, qn⟩
  · refine wpAny_passesOwn hp (thn (T.item X rfl rfl rfl hc i pins s3 σ3 H3 X.xe I3 (stat fr3) st3 go) fun r s4 ⟨u, hr, h4⟩ => ?_)
    subst hr
    refine wpAny_passesOwn hp (thn h4 fun _ s5 ⟨x, H5, I5, r5, y5, st5, fr5⟩ => ?_)
    have I5' := I5.pinned (stat fr5) (T.obj _ _ st5)
    refine wpAny_passesOwn hp (thn (hg _ s5 σ3 H5 x u _ I5' r5 (step x H5 y5)) fun _ s6 ⟨σ6, H6, I6, q6⟩ => ?_)
    refine wpAny_passesOwn hp (thn (hb _ s6 σ6 H6 _ I6 q6) fun f s7 q7 => ?_)
    have again : ∀ {σ7 : St} {H7 : Hp}, Inv X (pins ++ pinsAt fp s5.heap) σ7 H7 s7 → N σ7 H7 → ∃ m, m < n ∧ ∃ i σ' H', Inv X pins σ' H' s7 ∧ tn i s7.heap ∧ (∀ b ∈ fp, H' b = none) ∧ W i m σ' H' := fun {σ7 H7} I7 n7 => by
      obtain ⟨m', hm, w7⟩ := hN σ7 H7 n7
      refine ⟨m', hm, i + 1, σ7, H7, I7.unpinned, T.keep _ _ _ st5 fun b hb o e => (I7.pin (b, o) (List.mem_append_right _ (List.mem_append_right _ (mem_pinsAt hb e)))).1, fun b hb => ?_, w7⟩
      obtain ⟨o, e, d⟩ := T.obj _ _ st5 b hb
      exact (I7.pin (b, o) (List.mem_append_right _ (List.mem_append_right _ (mem_pinsAt hb e)))).2.1
    cases f with
    | next => obtain ⟨σ7, H7, I7, n7⟩ := q7; exact again I7 n7
    | cont => obtain ⟨σ7, H7, I7, n7⟩ := q7; exact again I7 n7
    | brk => obtain ⟨σ7, H7, I7, q7⟩ := q7; exact ⟨σ7, H7, I7.unpinned, q7⟩
    | ret v => obtain ⟨x7, σ7, H7, I7, r7, q7⟩ := q7; exact ⟨x7, σ7, H7, I7.unpinned, r7, q7⟩
end

/-! ### the forms one uses -/
/-- over a list that the body leaves as it is -/
theorem for_list {K : PySem.W.Frag} {a : Addr} {xs : List V} {g : TG} {tb : TS} {D : Ends} {σ : St} {H : Hp} (Pv : Nat → St → Hp → Prop) (h0 : Pv 0 σ H) (hl : ∀ i σ H, i ≤ xs.length → Pv i σ H → SqL K H a xs)
    (hs : ∀ i x σ H, xs[i]? = some x → Pv i σ H → g x σ H fun σ2 H2 => tb { D with nx := Pv (i + 1), ct := Pv (i + 1), bk := D.nx } σ2 H2) (hd : ∀ σ H, Pv xs.length σ H → D.nx σ H) :
    ∃ W : Nat → Nat → St → Hp → Prop, (∃ m, W 0 m σ H) ∧ ∀ i m σ H, W i m σ H →
      ((Itl K a).stop i H ∧ D.nx σ H) ∨ ((Itl K a).go i H ∧ ∃ N : St → Hp → Prop, (∀ σ' H', N σ' H' → ∃ m', m' < m ∧ W (i + 1) m' σ' H') ∧ ∀ x H', (Itl K a).yld i H x H' → g x σ H' fun σ2 H2 => tb { D with nx := N, ct := N, bk := D.nx } σ2 H2) := by
  refine ⟨fun i m σ H => m = xs.length - i ∧ i ≤ xs.length ∧ Pv i σ H, ⟨xs.length, by simp, Nat.zero_le _, h0⟩, ?_⟩
  rintro i m σ H ⟨rfl, hi, p⟩
  have q := hl i σ H hi p
  by_cases hlt : i < xs.length
  · refine .inr ⟨⟨xs, xs[i], q, by simp [hlt]⟩, Pv (i + 1), fun σ' H' p' => ⟨xs.length - (i + 1), by omega, rfl, hlt, p'⟩, fun x H' y => ?_⟩
    obtain ⟨e, y⟩ := y
    subst e
    exact hs i x σ _ (y xs q) p
  · have e : i = xs.length := by omega
    subst e
    exact .inl ⟨⟨xs, q, Nat.le_refl _⟩, hd σ H p⟩
theorem for_range {lo : Int} {n : Nat} {g : TG} {tb : TS} {D : Ends} {σ : St} {H : Hp} (Pv : Nat → St → Hp → Prop) (h0 : Pv 0 σ H)
    (hs : ∀ i σ H, i < n → Pv i σ H → g (.int (lo + i)) σ H fun σ2 H2 => tb { D with nx := Pv (i + 1), ct := Pv (i + 1), bk := D.nx } σ2 H2) (hd : ∀ σ H, Pv n σ H → D.nx σ H) :
    ∃ W : Nat → Nat → St → Hp → Prop, (∃ m, W 0 m σ H) ∧ ∀ i m σ H, W i m σ H →
      ((Itr lo n).stop i H ∧ D.nx σ H) ∨ ((Itr lo n).go i H ∧ ∃ N : St → Hp → Prop, (∀ σ' H', N σ' H' → ∃ m', m' < m ∧ W (i + 1) m' σ' H') ∧ ∀ x H', (Itr lo n).yld i H x H' → g x σ H' fun σ2 H2 => tb { D with nx := N, ct := N, bk := D.nx } σ2 H2) := by
  refine ⟨fun i m σ H => m = n - i ∧ i ≤ n ∧ Pv i σ H, ⟨n, by simp, Nat.zero_le _, h0⟩, ?_⟩
  rintro i m σ H ⟨rfl, hi, p⟩
  by_cases hlt : i < n
  · refine .inr ⟨hlt, Pv (i + 1), fun σ' H' p' => ⟨n - (i + 1), by omega, rfl, hlt, p'⟩, fun x H' y => ?_⟩
    obtain ⟨e, y⟩ := y
    subst e y
    exact hs i σ _ hlt p
  · have e : i = n := by omega
    subst e
    exact .inl ⟨Nat.le_refl _, hd σ H p⟩
end L2

namespace L2
open PySem PySem.Spec PyProof.Rows

abbrev R2 := V → V → Hp → VK → Prop
/-- a two-place operation on values: f is binaryOp op, inplaceOp op or compareOp op -/
def OpR (X : Cx) (f : Value → Value → Sem Value) (r : R2) : Prop :=
  ∀ (pins : List (Addr × Obj)) (s : Shared) (σ : St) (H : Hp) (x y : V) (v u : Value) (Q : VK), Inv X pins σ H s → RelV x v → RelV y u → r x y H Q →
    wpAny (model X.prog X.w) X.A (f v u) (EP X pins σ Q) X.xe s
/-- a call of a value that is known (a builtin, a type) with values -/
def CallR (X : Cx) (f : Value) (r : List V → Hp → VK → Prop) : Prop :=
  ∀ (pins : List (Addr × Obj)) (s : Shared) (σ : St) (H : Hp) (xs : List V) (us : List Value) (Q : VK), Inv X pins σ H s → Vals xs us → r xs H Q →
    wpAny (model X.prog X.w) X.A (call f us) (EP X pins σ Q) X.xe s
def tOp (r : R2) (ta tb : TE) : TE := fun σ H Q => ta σ H fun x H1 => tb σ H1 fun y H2 => r x y H2 Q
/-- ints in, under C, and a value out -/
def rI (C : Int → Int → Prop) (g : Int → Int → V) : R2 := fun x y H Q => ∃ i j, x = .int i ∧ y = .int j ∧ C i j ∧ Q (g i j) H
def rI0 (g : Int → Int → V) : R2 := fun x y H Q => ∃ i j, x = .int i ∧ y = .int j ∧ Q (g i j) H
section
variable {X : Cx} {a b c : Expr} {ta tb tc : TE} {pos : Pos}

theorem binT (ha : PE X a ta) (hb : PE X b tb) {pins : List (Addr × Obj)} {s : Shared} {σ : St} {H : Hp} {R : V → V → Hp → Prop} (I : Inv X pins σ H s)
    (h : ta σ H fun x H1 => tb σ H1 fun y H2 => R x y H2) {Q : Value → Shared → Prop} {f : Value → Value → Sem Value}
    (hf : ∀ v u s2 x y H2, Inv X pins σ H2 s2 → RelV x v → RelV y u → R x y H2 → wpAny (model X.prog X.w) X.A (f v u) Q X.xe s2) :
    wpAny (model X.prog X.w) X.A (eval a X.env) (fun v s₁ => wpAny (model X.prog X.w) X.A (eval b X.env) (fun u s₂ => wpAny (model X.prog X.w) X.A (f v u) Q X.xe s₂) X.xe s₁) X.xe s := by
  refine thn (ha pins s σ H _ I h) fun v s1 ⟨x, H1, I1, r1, q1⟩ => ?_
  refine thn (hb pins s1 σ H1 _ I1 q1) fun u s2 ⟨y, H2, I2, r2, q2⟩ => ?_
  exact hf v u s2 x y H2 I2 r1 r2 q2

theorem pe_op {op : Operator} {r : R2} (ho : OpR X (binaryOp op) r) (ha : PE X a ta) (hb : PE X b tb) : PE X (.BinOp a op b pos) (tOp r ta tb) := by
  intro pins s σ H Q I h
  exact wpAny_BinOp (binT ha hb I h fun v u s2 x y H2 I2 rx ry q => ho pins s2 σ H2 x y v u Q I2 rx ry q)
/-! ### ints -/
theorem opI {f : Value → Value → Sem Value} {C : Int → Int → Prop} {g : Int → Int → Int}
    (rule : ∀ (i j : Int) (t u : Tok) (s : Shared) (Q : Value → Shared → Prop) (E : Value → Shared → Prop), C i j → Q (.int (g i j) s.toks) { s with toks := s.toks + 1 } → wpAny (model X.prog X.w) X.A (f (.int i t) (.int j u)) Q E s) :
    OpR X f (rI C fun i j => .int (g i j)) := by
  intro pins s σ H x y v u Q I rx ry h
  obtain ⟨i, j, rfl, rfl, hc, q⟩ := h
  obtain ⟨t, rfl⟩ := rx
  obtain ⟨t', rfl⟩ := ry
  exact rule i j t t' s _ _ hc ⟨.int (g i j), H, I.tok _, ⟨_, rfl⟩, q⟩
theorem opI0 {f : Value → Value → Sem Value} {g : Int → Int → Int}
    (rule : ∀ (i j : Int) (t u : Tok) (s : Shared) (Q : Value → Shared → Prop) (E : Value → Shared → Prop), Q (.int (g i j) s.toks) { s with toks := s.toks + 1 } → wpAny (model X.prog X.w) X.A (f (.int i t) (.int j u)) Q E s) :
    OpR X f (rI0 fun i j => .int (g i j)) := by
  intro pins s σ H x y v u Q I rx ry h
  obtain ⟨i, j, rfl, rfl, q⟩ := h
  obtain ⟨t, rfl⟩ := rx
  obtain ⟨t', rfl⟩ := ry
  exact rule i j t t' s _ _ ⟨.int (g i j), H, I.tok _, ⟨_, rfl⟩, q⟩
theorem opB0 {f : Value → Value → Sem Value} {g : Int → Int → Bool}
    (rule : ∀ (i j : Int) (t u : Tok) (s : Shared) (Q : Value → Shared → Prop) (E : Value → Shared → Prop), Q (.bool (g i j)) s → wpAny (model X.prog X.w) X.A (f (.int i t) (.int j u)) Q E s) :
    OpR X f (rI0 fun i j => .bl (g i j)) := by
  intro pins s σ H x y v u Q I rx ry h
  obtain ⟨i, j, rfl, rfl, q⟩ := h
  obtain ⟨t, rfl⟩ := rx
  obtain ⟨t', rfl⟩ := ry
  exact rule i j t t' s _ _ ⟨.bl (g i j), H, I, rfl, q⟩

def CDiv (i j : Int) : Prop := 0 < j ∧ j < 1073741824
def CPow (i j : Int) : Prop := 0 ≤ j ∧ j ≤ 1000000 ∧ i.natAbs < 2 ^ 64
def CMul (i j : Int) : Prop := (-(2 ^ 64) < i ∧ i < 2 ^ 64) ∨ (-(2 ^ 64) < j ∧ j < 2 ^ 64)
theorem CMul.ok {i j : Int} (h : CMul i j) : IntMulOk i j := by
  rcases h with ⟨h1, h2⟩ | ⟨h1, h2⟩
  · exact .of_left (intBits_le_64 h1 h2)
  · exact .of_right (intBits_le_64 h1 h2)
theorem op_add : OpR X (binaryOp .Add) (rI0 fun i j => .int (i + j)) := opI0 fun _ _ _ _ _ _ _ q => add_int q
theorem op_sub : OpR X (binaryOp .Sub) (rI0 fun i j => .int (i - j)) := opI0 fun _ _ _ _ _ _ _ q => sub_int q
theorem op_mul : OpR X (binaryOp .Mult) (rI CMul fun i j => .int (i * j)) := opI fun _ _ _ _ _ _ _ hc q => mul_int q hc.ok
/-- // by a positive divisor -/
theorem op_fdiv : OpR X (binaryOp .FloorDiv) (rI CDiv fun i j => .int (i / j)) := opI fun i j _ _ _ _ _ hc q => by
  have h1 : (0 : Int) < j := hc.1
  have h2 : j < 1073741824 := hc.2
  exact floordiv_int (by omega) (by rw [Int.fdiv_eq_ediv_of_nonneg i (by omega)]; exact q) (.inl (PyProof.noPylong_small (by omega)))
/-- % by a positive divisor of any size -/
theorem op_mod : OpR X (binaryOp .Mod) (rI (fun _ j => 0 < j) fun i j => .int (i % j)) := opI fun i j _ _ _ _ _ hc q => by
  have h1 : (0 : Int) < j := hc
  exact mod_int' (by omega) (by rw [Int.fmod_eq_emod_of_nonneg i (by omega)]; exact q)
theorem op_pow : OpR X (binaryOp .Pow) (rI CPow fun i j => .int (i ^ j.toNat)) := opI fun _ _ _ _ _ _ _ hc q => pow_int_small hc.1 hc.2.1 hc.2.2 q
/-! ### bools among ints: n += (a < b) -/
end

/-! ### comparisons -/
/-- the scalars that == tells apart as data does -/
def scal : V → V → Bool
  | .non, .non => true | .non, .int _ => true | .int _, .non => true | .non, .bl _ => true | .bl _, .non => true | .non, .str _ => true | .str _, .non => true
  | .int _, .int _ => true | .bl _, .bl _ => true | .str _, .str _ => true | .byt _, .byt _ => true
  | .int _, .str _ => true | .str _, .int _ => true | .bl _, .str _ => true | .str _, .bl _ => true
  | _, _ => false
def rEq : R2 := fun x y H Q => scal x y = true ∧ Q (.bl (decide (x = y))) H
def rNe : R2 := fun x y H Q => scal x y = true ∧ Q (.bl (!decide (x = y))) H

theorem dec_int {i j : Int} : decide (V.int i = V.int j) = (i == j) := by
  rw [Bool.eq_iff_iff]
  simp
theorem dec_bl {i j : Bool} : decide (V.bl i = V.bl j) = (i == j) := by
  rw [Bool.eq_iff_iff]
  simp
theorem dec_str {i j : Str} : decide (V.str i = V.str j) = (i == j) := by
  rw [Bool.eq_iff_iff]
  simp
theorem dec_byt {i j : Array UInt8} : decide (V.byt i = V.byt j) = (i.toList == j.toList) := by
  rw [Bool.eq_iff_iff]
  cases i
  cases j
  simp

section
variable {X : Cx} {a b c : Expr} {ta tb tc : TE} {pos : Pos}
theorem fin_bl {pins : List (Addr × Obj)} {σ : St} {H : Hp} {s : Shared} {Q : VK} {k k' : Bool} (I : Inv X pins σ H s) (q : Q (.bl k) H) (e : k = k') : EP X pins σ Q (.bool k') s := by
  subst e
  exact ⟨.bl k, H, I, rfl, q⟩
theorem op_eq : OpR X (compareOp .Eq) rEq := by
  intro pins s σ H x y v u Q I rx ry h
  obtain ⟨hs, q⟩ := h
  cases x with
  | non =>
    cases rx
    cases y with
    | non => cases ry; exact PySem.EqNone.eq_none_none (fin_bl I q (by simp))
    | bl j => cases ry; exact PySem.EqNone.eq_none_bool (fin_bl I q (by simp))
    | int j => obtain ⟨t', rfl⟩ := ry; exact PySem.EqNone.eq_none_int (fin_bl I q (by simp))
    | str j => obtain ⟨t', rfl⟩ := ry; exact PySem.EqNone.eq_none_str (fin_bl I q (by simp))
    | _ => exact absurd (show false = true from hs) Bool.false_ne_true
  | bl i =>
    cases rx
    cases y with
    | non => cases ry; exact PySem.EqNone.eq_bool_none (fin_bl I q (by simp))
    | bl j => cases ry; exact eq_bool (fin_bl I q dec_bl)
    | str j => obtain ⟨t', rfl⟩ := ry; exact PySem.EqMixed.eq_bool_str (fin_bl I q (by simp))
    | _ => exact absurd (show false = true from hs) Bool.false_ne_true
  | int i =>
    obtain ⟨t, rfl⟩ := rx
    cases y with
    | non => cases ry; exact PySem.EqNone.eq_int_none (fin_bl I q (by simp))
    | int j => obtain ⟨t', rfl⟩ := ry; exact eq_int (fin_bl I q dec_int)
    | str j => obtain ⟨t', rfl⟩ := ry; exact PySem.EqMixed.eq_int_str (fin_bl I q (by simp))
    | _ => exact absurd (show false = true from hs) Bool.false_ne_true
  | str i =>
    obtain ⟨t, rfl⟩ := rx
    cases y with
    | non => cases ry; exact PySem.EqNone.eq_str_none (fin_bl I q (by simp))
    | bl j => cases ry; exact PySem.EqMixed.eq_str_bool (fin_bl I q (by simp))
    | int j => obtain ⟨t', rfl⟩ := ry; exact PySem.EqMixed.eq_str_int (fin_bl I q (by simp))
    | str j => obtain ⟨t', rfl⟩ := ry; exact eq_str (fin_bl I q dec_str)
    | _ => exact absurd (show false = true from hs) Bool.false_ne_true
  | byt i =>
    obtain ⟨t, rfl⟩ := rx
    cases y with
    | byt j => obtain ⟨t', rfl⟩ := ry; exact PySem.W.eq_bytes (fin_bl I q dec_byt)
    | _ => exact absurd (show false = true from hs) Bool.false_ne_true
  | _ => cases y <;> exact absurd (show false = true from hs) Bool.false_ne_true
theorem op_ne : OpR X (compareOp .NotEq) rNe := by
  intro pins s σ H x y v u Q I rx ry h
  obtain ⟨hs, q⟩ := h
  cases x with
  | non =>
    cases rx
    cases y with
    | non => cases ry; exact PySem.EqNone.ne_none_none (fin_bl I q (by simp))
    | bl j => cases ry; exact PySem.EqNone.ne_none_bool (fin_bl I q (by simp))
    | int j => obtain ⟨t', rfl⟩ := ry; exact PySem.EqNone.ne_none_int (fin_bl I q (by simp))
    | str j => obtain ⟨t', rfl⟩ := ry; exact PySem.EqNone.ne_none_str (fin_bl I q (by simp))
    | _ => exact absurd (show false = true from hs) Bool.false_ne_true
  | bl i =>
    cases rx
    cases y with
    | non => cases ry; exact PySem.EqNone.ne_bool_none (fin_bl I q (by simp))
    | bl j => cases ry; exact ne_bool (fin_bl I q (congrArg not dec_bl))
    | str j => obtain ⟨t', rfl⟩ := ry; exact PySem.EqMixed.ne_bool_str (fin_bl I q (by simp))
    | _ => exact absurd (show false = true from hs) Bool.false_ne_true
  | int i =>
    obtain ⟨t, rfl⟩ := rx
    cases y with
    | non => cases ry; exact PySem.EqNone.ne_int_none (fin_bl I q (by simp))
    | int j => obtain ⟨t', rfl⟩ := ry; exact ne_int (fin_bl I q (congrArg not dec_int))
    | str j => obtain ⟨t', rfl⟩ := ry; exact PySem.EqMixed.ne_int_str (fin_bl I q (by simp))
    | _ => exact absurd (show false = true from hs) Bool.false_ne_true
  | str i =>
    obtain ⟨t, rfl⟩ := rx
    cases y with
    | non => cases ry; exact PySem.EqNone.ne_str_none (fin_bl I q (by simp))
    | bl j => cases ry; exact PySem.EqMixed.ne_str_bool (fin_bl I q (by simp))
    | int j => obtain ⟨t', rfl⟩ := ry; exact PySem.EqMixed.ne_str_int (fin_bl I q (by simp))
    | str j => obtain ⟨t', rfl⟩ := ry; exact ne_str (fin_bl I q (congrArg not dec_str))
    | _ => exact absurd (show false = true from hs) Bool.false_ne_true
  | byt i =>
    obtain ⟨t, rfl⟩ := rx
    cases y with
    | byt j => obtain ⟨t', rfl⟩ := ry; exact PySem.W.ne_bytes (fin_bl I q (congrArg not dec_byt))
    | _ => exact absurd (show false = true from hs) Bool.false_ne_true
  | _ => cases y <;> exact absurd (show false = true from hs) Bool.false_ne_true

theorem op_lt : OpR X (compareOp .Lt) (rI0 fun i j => .bl (decide (i < j))) := opB0 fun _ _ _ _ _ _ _ q => lt_int q
theorem op_gt : OpR X (compareOp .Gt) (rI0 fun i j => .bl (decide (j < i))) := opB0 fun _ _ _ _ _ _ _ q => gt_int q
theorem op_ge : OpR X (compareOp .GtE) (rI0 fun i j => .bl (decide (j ≤ i))) := opB0 fun _ _ _ _ _ _ _ q => ge_int q
/-- is, is not of two objects that are tracked lists or instances -/
def isObj : HO → Bool
  | .lst _ => true
  | .ins _ _ _ => true
  | _ => false
theorem nomark (b : Expr) {op : CmpOp} (h : op ≠ .In := by decide) (h2 : op ≠ .NotIn := by decide) : behindInMarks op b = false := by
  have e1 : (op == CmpOp.In) = false := by cases op <;> first | rfl | exact absurd rfl h
  have e2 : (op == CmpOp.NotIn) = false := by cases op <;> first | rfl | exact absurd rfl h2
  cases b <;> simp [behindInMarks, e1, e2]
/-- a comparison as a value; hm: nomark b, or (for in, not in) by with_unfolding_all rfl -/
theorem pe_cmpR {op : CmpOp} {r : R2} (ho : OpR X (compareOp op) r) (ha : PE X a ta) (hb : PE X b tb) (hm : behindInMarks op b = false) : PE X (.Compare a [op] [b] pos) (tOp r ta tb) := by
  intro pins s σ H Q I h
  exact wpAny_Compare1 (binT ha hb I h fun v u s2 x y H2 I2 rx ry q => ho pins s2 σ H2 x y v u Q I2 rx ry q) hm
/-- a reading of a value as a test -/
def tTest (t : TE) : TT := fun σ H Q => t σ H fun x H' => ∃ k, x = .bl k ∧ Q k H'
theorem pt_cmpR {op : CmpOp} {r : R2} (ho : OpR X (compareOp op) r) (ha : PE X a ta) (hb : PE X b tb) (hm : behindInMarks op b = false) : PT X (.Compare a [op] [b] pos) (tTest (tOp r ta tb)) := by
  intro pins s σ H Q I h
  refine wpAny_isTrue_Compare1 (thn (ha pins s σ H _ I h) fun v s1 ⟨x, H1, I1, r1, q1⟩ => thn (hb pins s1 σ H1 _ I1 q1) fun u s2 ⟨y, H2, I2, r2, q2⟩ =>
    thn (ho pins s2 σ H2 x y v u _ I2 r1 r2 q2) fun c s3 ⟨z, H3, I3, r3, k, e, q3⟩ => ?_) hm
  subst e
  cases r3
  exact wpAny_truthy_bool ⟨H3, I3, q3⟩
/-! ### truth -/
theorem line63 : (sizeLine : Nat) < 2 ^ 63 := by rw [sizeLine_eq]; decide
/-! ### strs and bytes -/
/-! ### scalar builtins, by CallR -/
theorem vals1 {x : V} {us : List Value} (r : Vals [x] us) : ∃ u, us = [u] ∧ RelV x u := by
  cases r with
  | cons r1 r2 => cases r2; exact ⟨_, rfl, r1⟩
theorem vals2 {x y : V} {us : List Value} (r : Vals [x, y] us) : ∃ u w', us = [u, w'] ∧ RelV x u ∧ RelV y w' := by
  cases r with
  | cons r1 r2 =>
    cases r2 with
    | cons r3 r4 => cases r4; exact ⟨_, _, rfl, r1, r3⟩
theorem call_abs : CallR X (.builtin "abs") (fun xs H Q => ∃ i, xs = [.int i] ∧ Q (.int (if i < 0 then -i else i)) H) := by
  intro pins s σ H xs us Q I r h
  obtain ⟨i, rfl, q⟩ := h
  obtain ⟨u, rfl, t, rfl⟩ := vals1 r
  exact call_abs_int fun u tk => ⟨.int (if i < 0 then -i else i), H, I.tok _, ⟨_, rfl⟩, q⟩
theorem call_max2 (hc : X.calm = true) : CallR X (.builtin "max") (fun xs H Q => ∃ i j, xs = [.int i, .int j] ∧ Q (.int (if j > i then j else i)) H) := by
  intro pins s σ H xs us Q I r h
  obtain ⟨i, j, rfl, q⟩ := h
  obtain ⟨u, w', rfl, ⟨t, rfl⟩, ⟨t', rfl⟩⟩ := vals2 r
  refine max_two_ints (I.ok.hd hc) fun h' tk k => ⟨_, H, I.kept k, ?_, q⟩
  by_cases hj : j > i
  · rw [if_pos hj, if_pos hj]; exact ⟨_, rfl⟩
  · rw [if_neg hj, if_neg hj]; exact ⟨_, rfl⟩
theorem call_min2 (hc : X.calm = true) : CallR X (.builtin "min") (fun xs H Q => ∃ i j, xs = [.int i, .int j] ∧ Q (.int (if j < i then j else i)) H) := by
  intro pins s σ H xs us Q I r h
  obtain ⟨i, j, rfl, q⟩ := h
  obtain ⟨u, w', rfl, ⟨t, rfl⟩, ⟨t', rfl⟩⟩ := vals2 r
  refine min_two_ints (I.ok.hd hc) fun h' tk k => ⟨_, H, I.kept k, ?_, q⟩
  by_cases hj : j < i
  · rw [if_pos hj, if_pos hj]; exact ⟨_, rfl⟩
  · rw [if_neg hj, if_neg hj]; exact ⟨_, rfl⟩
theorem call_int1 : CallR X (.type "int") (fun xs H Q => (∃ i, xs = [.int i] ∧ Q (.int i) H) ∨ ∃ k, xs = [.bl k] ∧ Q (.int (if k then 1 else 0)) H) := by
  intro pins s σ H xs us Q I r h
  rcases h with ⟨i, rfl, q⟩ | ⟨k, rfl, q⟩
  · obtain ⟨u, rfl, t, rfl⟩ := vals1 r
    exact call_int_int ⟨.int i, H, I, ⟨_, rfl⟩, q⟩
  · obtain ⟨u, rfl, r1⟩ := vals1 r
    cases r1
    exact call_int_bool ⟨.int (if k then 1 else 0), H, I.tok _, ⟨_, rfl⟩, q⟩
end
end L2

namespace L2
open PySem PySem.Spec PyProof.Rows

/-! ### an instance, its attributes a map -/
structure ObjM (h : Heap) (x dx C : Addr) (mA : Str → Option Value) : Prop where
  obj : h.get? x = some (PySem.W.instObj C dx)
  ns : h.Ns1 dx mA
  ne : dx ≠ x

theorem lookIn_ns {h : Heap} {dx : Addr} {mA : Str → Option Value} (n : h.Ns1 dx mA) : ∃ od, h.get? dx = some od ∧ ∀ name, PySem.W.lookIn name od = some (mA name) := by
  obtain ⟨o, es, ep, ho, hd, hk, _, hm⟩ := n
  refine ⟨o, ho, fun name => ?_⟩
  have e := hm name
  unfold nsFind findBy at e
  rw [← Array.find?_toList] at e
  unfold PySem.W.lookIn
  rw [hd]
  dsimp only
  split
  · rename_i y q
    rw [q] at e
    exact congrArg some e
  · rename_i q
    rw [q] at e
    have a : es.toList.any (·.refKey) = false := by
      rw [List.any_eq_false]
      intro y hy
      obtain ⟨z, t, hkey⟩ := hk y (Array.mem_toList_iff.mp hy)
      simp [DictEntry.refKey, hkey]
    have a' : ¬ es.toList.any (·.refKey) = true := by rw [a]; exact Bool.false_ne_true
    rw [if_neg a']
    exact congrArg some e

theorem ObjM.look {h : Heap} {x dx C : Addr} {mA : Str → Option Value} (I : ObjM h x dx C mA) : ∃ od, PySem.W.InstAt h x (PySem.W.instObj C dx) C (some od) ∧ ∀ name, PySem.W.lookIn name od = some (mA name) :=
  let ⟨od, ho, hl⟩ := lookIn_ns I.ns
  ⟨od, ⟨I.obj, rfl, rfl, ho⟩, hl⟩

section
variable {prog : Program} {w : World} {A : Around} {E : Value → Shared → Prop} {s : Shared} {K : PySem.W.Frag} {x dx C f : Addr} {mA : Str → Option Value} {name : Str} {v : Value}

end

/-! ### the attributes as a list of pairs -/
theorem RelO.some_of {v : V} {o : Option Value} (r : RelO (some v) o) : ∃ u, o = some u ∧ RelV v u := by
  cases o with
  | none => exact (show False from r).elim
  | some u => exact ⟨u, rfl, r⟩
section
variable {P : Program} {w : World} {H H' : Hp} {h h' : Heap} {a C dx : Addr} {fs fs' : List (Str × V)}
theorem ins_get (hok : HOk P w H h) (e : H a = some (.ins C dx fs)) : ∃ mA, ObjM h a dx C mA ∧ (∀ f, RelO (fs.lookup f) (mA f)) ∧ PySem.Within mA (fs.map (·.1)) ∧ fs.length ≤ 1000 ∧ H dx = some (.own a) := by
  obtain ⟨d, z, ne, ob, mA, n, r, q⟩ := (show ObjOk P w H h a (.ins C dx fs) from hok a _ e)
  exact ⟨mA, ⟨ob, n, ne⟩, r, q, z, d⟩
end

/-! ### what of the text a class must have -/
structure Cls (K : PySem.W.Frag) (C : Addr) : Prop where
  pg : PySem.W.plainGet K C Str.empty = true
  hd : PySem.W.hasDictIn K C = true
  po : PySem.W.plainOver K C = true
  sa : PySem.W.findIn K (.ref C) "__setattr__" = some (some (.builtin "object.__setattr__"))
theorem Cls.get {K : PySem.W.Frag} {C : Addr} (c : Cls K C) (f : Str) : PySem.W.plainGet K C f = true := c.pg
section
variable {X : Cx} {pins : List (Addr × Obj)} {σ : St} {H : Hp} {s : Shared} {a C dx : Addr} {fs : List (Str × V)} {f : Str} {v : V} {A : Around} {E : Value → Shared → Prop}

end

/-! ### readings and rules -/
section
variable {X : Cx} {o e value : Expr} {f : Str} {pos pos' tpos : Pos} {ta tv : TE}
end

/-! ### isinstance -/
section
variable {X : Cx} {pins : List (Addr × Obj)} {σ : St} {H : Hp} {s : Shared} {A : Around} {E : Value → Shared → Prop} {Q : Value → Shared → Prop} {c : Value} {b : Bool}
/-- the type of a value, as the fragment's deciders take it; for an instance its class -/
inductive TyOf (K : PySem.W.Frag) (H : Hp) : V → Value → Prop where
  | non : TyOf K H .non (.type "NoneType")
  | bl (x : Bool) : TyOf K H (.bl x) (.type "bool")
  | int (i : Int) : TyOf K H (.int i) (.type "int")
  | str (x : Str) : TyOf K H (.str x) (.type "str")
  | flt (x : UInt64) : TyOf K H (.flt x) (.type "float")
  | lst {a : Addr} {xs : List V} (e : H a = some (.lst xs)) : TyOf K H (.ref a) (.type "list")
  | frz {a : Addr} {o : Obj} {xs : List V} (e : H a = some (.frz o (.lst xs))) : TyOf K H (.ref a) (.type "list")
  | tup {a : Addr} {xs : List V} (e : H a = some (.tup xs)) : TyOf K H (.ref a) (.type "tuple")
  | dK {a : Addr} {kvs : List (Key × V)} (e : H a = some (.dK kvs)) : TyOf K H (.ref a) (.type "dict")
  | dT {a : Addr} {kvs : List (List Key × V)} (e : H a = some (.dT kvs)) : TyOf K H (.ref a) (.type "dict")
  | ins {a C dx : Addr} {fs : List (Str × V)} (e : H a = some (.ins C dx fs)) (cl : Cls K C) (ha : PySem.W.findIn K (.ref C) "__class__" = some (some (.builtin "object.__class__")))
      (hn : PySem.W.specialIn K (.builtin "object.__class__") "__get__" = some (some (.builtin "getset_descriptor.__get__"))) (htk : PySem.W.takesIn K (.builtin "object.__class__") = some true)
      (hm : PySem.W.mroIn K C (.type "object") = some true) : TyOf K H (.ref a) (.ref C)
/-- isinstance(x, c) for one class c, a built-in or an own one: kitOne's answer -/
theorem isinst_ok {x : V} {u t : Value} (I : Inv X pins σ H s) (rx : RelV x u) (ty : TyOf X.K H x t) (e : PySem.W.kitOne X.K t c = some b) (h : ∀ tk, Q (.bool b) { s with toks := tk }) :
    wpAny (model X.prog X.w) A (call (.builtin "isinstance") [u, c]) Q E s := by
  cases ty with
  | non => cases (show u = Value.none from rx); exact PySem.W.kia_one PySem.W.kitx_none I.kIn True.intro e (fun z => nomatch z) h
  | bl y => cases (show u = Value.bool y from rx); exact PySem.W.kia_one PySem.W.kitx_bool I.kIn True.intro e (fun z => nomatch z) h
  | int i => obtain ⟨t, q⟩ := (show ∃ t, u = Value.int i t from rx); cases q; exact PySem.W.kia_one PySem.W.kitx_int I.kIn True.intro e (fun z => nomatch z) h
  | str y => obtain ⟨t, q⟩ := (show ∃ t, u = Value.str y t from rx); cases q; exact PySem.W.kia_one PySem.W.kitx_str I.kIn True.intro e (fun z => nomatch z) h
  | flt y => obtain ⟨t, q⟩ := (show ∃ t, u = Value.float y t from rx); cases q; exact PySem.W.kia_one PySem.W.kitx_float I.kIn True.intro e (fun z => nomatch z) h
  | @lst a xs ea =>
    cases (show u = Value.ref a from rx)
    obtain ⟨_, _, n, _, h1⟩ := (show ObjOk X.prog X.w H s.heap a (.lst xs) from I.hok a _ ea)
    exact PySem.W.kia_one PySem.W.kitx_list I.kIn ⟨_, h1, rfl⟩ e (fun z => nomatch z) h
  | @frz a ob xs ea =>
    cases (show u = Value.ref a from rx)
    obtain ⟨_, _, _, n, _, h1⟩ := (show ObjOk X.prog X.w H s.heap a (.frz ob (.lst xs)) from I.hok a _ ea)
    exact PySem.W.kia_one PySem.W.kitx_list I.kIn ⟨_, h1, rfl⟩ e (fun z => nomatch z) h
  | @tup a xs ea =>
    cases (show u = Value.ref a from rx)
    obtain ⟨_, _, _, p⟩ := (show ObjOk X.prog X.w H s.heap a (.tup xs) from I.hok a _ ea)
    obtain ⟨o, h1, h2, _⟩ := p
    exact PySem.W.kia_one PySem.W.kitx_tuple I.kIn ⟨o, h1, h2⟩ e (fun z => nomatch z) h
  | @dK a kvs ea =>
    cases (show u = Value.ref a from rx)
    obtain ⟨_, _, vs, _, p⟩ := (show ObjOk X.prog X.w H s.heap a (.dK kvs) from I.hok a _ ea)
    obtain ⟨o, es, ep, h1, h2, _⟩ := p
    exact PySem.W.kia_one PySem.W.kitx_dict I.kIn ⟨o, h1, h2.1⟩ e (fun z => nomatch z) h
  | @dT a kvs ea =>
    cases (show u = Value.ref a from rx)
    obtain ⟨_, _, xs, _, o, es, ep, h1, h2, _⟩ := (show ObjOk X.prog X.w H s.heap a (.dT kvs) from I.hok a _ ea)
    exact PySem.W.kia_one PySem.W.kitx_dict I.kIn ⟨o, h1, h2.1⟩ e (fun z => nomatch z) h
  | @ins a C dx fs ea cl ha hn htk hm =>
    cases (show u = Value.ref a from rx)
    obtain ⟨mA, O, _⟩ := ins_get I.hok ea
    obtain ⟨od, J, _⟩ := O.look
    exact PySem.W.kia_one (PySem.W.kitx_own (cl.get _) cl.hd ha hn htk hm) I.kIn J e (fun z => nomatch z) h
end
end L2

namespace L2
open PySem PySem.Spec PyProof.Rows

/-! ### room -/
structure Room (k : Nat) (A : Around) : Prop where
  hd : A.handled = none
  dp : A.depth + 3 * k + 5 < recursionLimit
  un : A.units + 16 * k + 200 < cLine
theorem Room.mono {j k : Nat} {A : Around} (r : Room k A) (h : j ≤ k) : Room j A := ⟨r.hd, by have := r.dp; omega, by have := r.un; omega⟩
theorem Room.deeper {k : Nat} {A : Around} (r : Room (k + 1) A) (env : Env) : Room k (A.deeper env) :=
  ⟨r.hd, by have := r.dp; show A.depth + 1 + 3 * k + 5 < _; omega, by have := r.un; show A.units + 3 + 16 * k + 200 < _; omega⟩
theorem Room.depth {k : Nat} {A : Around} (r : Room k A) : A.depth < recursionLimit := by have := r.dp; omega
theorem Room.units {k : Nat} {A : Around} (r : Room k A) : A.units + 64 < cLine := by have := r.un; omega
/-! ### argument lists and displays -/
def tNil : TA := fun _ H Q => Q [] H
def tCons (ta : TE) (tr : TA) : TA := fun σ H Q => ta σ H fun x H1 => tr σ H1 fun xs H2 => Q (x :: xs) H2
section
variable {X : Cx} {e : Expr} {es : List Expr} {te : TE} {t : TA} {pos : Pos}
theorem pa_nil : PA X [] tNil := fun _ _ _ _ H Q I h => Calls.spliced_nil ⟨[], H, I, .nil, h⟩
theorem pa_cons (ha : PE X e te) (hr : PA X es t) (hs : starEach (e :: es) X.env = (false, eval e X.env) :: starEach es X.env := by rfl) : PA X (e :: es) (tCons te t) := by
  intro pos pins s σ H Q I h
  rw [hs]
  show wpAny _ _ (spliced ((false, eval e X.env) :: backTo pos (starEach es X.env))) _ _ s
  refine Calls.spliced_cons (thn (ha pins s σ H _ I h) fun u s1 ⟨x, H1, I1, r1, q1⟩ => ?_)
  exact thn (hr pos pins s1 σ H1 _ I1 q1) fun us s2 ⟨xs, H2, I2, r2, q2⟩ => ⟨x :: xs, H2, I2, .cons r1 r2, q2⟩

/-- a tuple, a list of written items -/
def tTup (t : TA) : TE := fun σ H Q => t σ H fun xs H1 => xs.length ≤ sizeLine ∧ ∀ p, H1 p = none → Q (.ref p) (upd H1 p (.tup xs))
def tLst (t : TA) : TE := fun σ H Q => t σ H fun xs H1 => xs.length ≤ sizeLine ∧ ∀ p, H1 p = none → Q (.ref p) (upd H1 p (.lst xs))
theorem pe_tup {x1} (h : PA X es t) : PE X (.Tuple es x1 pos) (tTup t) := by
  intro pins s σ H Q I hq
  refine wpAny_Tuple_spliced (thn (h pos pins s σ H _ I hq) fun us s1 ⟨xs, H1, I1, r, z, q⟩ => ⟨by rw [← r.length]; exact z, ?_⟩)
  have hf : H1 s1.heap.objs.size = none := I1.hok.fresh (Nat.le_refl _)
  refine ⟨.ref s1.heap.objs.size, upd H1 s1.heap.objs.size (.tup xs), I1.laid (t' := s1.toks) (fun b u e => Heap.get?_push_of_some _ e) (Nat.le_refl _) ?_, rfl, q _ hf⟩
  exact ⟨z, us, r, ⟨_, Heap.get?_push_size _ rfl, rfl, _, rfl⟩⟩
theorem pe_lst (h : PA X es t) : PE X (.List es pos) (tLst t) := by
  intro pins s σ H Q I hq
  refine wpAny_List_spliced (thn (h pos pins s σ H _ I hq) fun us s1 ⟨xs, H1, I1, r, z, q⟩ => ⟨by rw [← r.length]; exact z, ?_⟩)
  have hf : H1 s1.heap.objs.size = none := I1.hok.fresh (Nat.le_refl _)
  refine ⟨.ref s1.heap.objs.size, upd H1 s1.heap.objs.size (.lst xs), I1.laid (t' := s1.toks) (fun b u e => Heap.get?_push_of_some _ e) (Nat.le_refl _) ?_, rfl, q _ hf⟩
  exact ⟨z, us, 0, r, Heap.get?_push_size _ rfl⟩
end

/-! ### what a def promises -/
/-- a def's promise: the bound arguments in the parameters' order, the heap, the wanted end, the wanted exception -/
abbrev Sp := List V → Hp → VK → XK → Prop
/-- how an exception lies behind a call (file 08 gives it): the callers' frames, abstract heap and state ahead of the call, the wish, the exception, the state -/
abbrev CXT := List Env → Hp → Shared → XK → Value → Shared → Prop

/-- the state at a call -/
structure Env0 (P : Program) (w : World) (K : PySem.W.Frag) (mg : Str → Option Value) (base : Heap) (A : Around) (outer : List Env) (s : Shared) (H : Hp) : Prop where
  frames : A.frames = some outer
  mod : Mod K mg base
  bs : ∀ b o, base.get? b = some o → s.heap.get? b = some o ∧ H b = none
  bsz : base.objs.size ≤ s.heap.objs.size
  funs : s.heap.FunFrames base outer
  frf : ∀ b ∈ frs outer, H b = none
  hok : HOk P w H s.heap
  bare : AllBare s.gens
/-- a call's end -/
def CE (outer : List Env) (P : Program) (w : World) (H : Hp) (s : Shared) (Q : VK) (u : Value) (s' : Shared) : Prop :=
  ∃ v H', s'.os = s.os ∧ AllBare s'.gens ∧ Un (frs outer) [] H H' s.heap s'.heap ∧ HOk P w H' s'.heap ∧ RelV v u ∧ Q v H'
def CR (CX : CXT) (outer : List Env) (P : Program) (w : World) (H : Hp) (s : Shared) (Q : VK) (E : XK) (r : Result) (s' : Shared) : Prop :=
  match r with
  | .ok (.ret u) => CE outer P w H s Q u s'
  | .ok _ => False
  | .error e => CX outer H s E e s'
structure FnOk (P : Program) (w : World) (K : PySem.W.Frag) (mg : Str → Option Value) (base : Heap) (CX : CXT) (k : Nat) (f : Addr) (fd : FuncData) (ps : List Str) (sp : Sp) : Prop where
  len : ∀ vs H Q E, sp vs H Q E → vs.length = ps.length
  run : ∀ (A : Around) (outer : List Env) (s : Shared) (H : Hp) (args : Args) (us : List Value) (vs : List V) (Q : VK) (E : XK), Room k A → Env0 P w K mg base A outer s H → BindsTo s fd args (ps.zip us) → Vals vs us → sp vs H Q E →
    codeAny (model P w) A (.call (.ref f) args) (CR CX outer P w H s Q E) s
section
variable {X : Cx} {pins : List (Addr × Obj)} {σ : St} {H : Hp} {s s' : Shared}
/-- from a body: what a callee wants -/
theorem Inv.env0 (I : Inv X pins σ H s) : Env0 X.prog X.w X.K X.mg X.base X.A X.stack s H :=
  ⟨I.ok.frames, I.ok.mod, I.bs, Nat.le_trans I.ok.bsz I.sz, I.stack, I.stkFree, I.hok, I.bare⟩
/-- behind a call -/
theorem Inv.after {Q : VK} {u : Value} (I : Inv X pins σ H s) (h : CE X.stack X.prog X.w H s Q u s') : EP X pins σ Q u s' := by
  obtain ⟨v, H', os, bare, un, hok, r, q⟩ := h
  obtain ⟨hh, g, d, t, os'⟩ := s'
  obtain rfl : os' = s.os := os
  exact ⟨v, H', I.call (h' := hh) (g' := g) (d' := d) (t' := t) (ch := []) un hok bare (fun b z => absurd z (by simp)), r, q⟩
end

/-! ### calls -/
/-- f(..): the written arguments, then the defaults dvs; E: what is wanted of an exception -/
def tCall (sp : Sp) (dvs : List V) (E : XK) (t : TA) : TE := fun σ H Q => t σ H fun vs H1 => sp (vs ++ dvs) H1 Q E
/-- how the parameters are bound: us the positional arguments, kw the keywords' values by name, ds the defaults that fill up -/
def Binds (K : PySem.W.Frag) (fd : FuncData) (ps : List Str) (ds : List Value) : Prop :=
  ∀ (s : Shared) (us : List Value), K.In s.heap → (us ++ ds).length = ps.length → BindsTo s fd ⟨us, []⟩ (ps.zip (us ++ ds))
/-- every parameter is given -/
theorem Binds.all {K : PySem.W.Frag} {fd : FuncData} {ps : List Str} (h : ∀ us : List Value, us.length = ps.length → bindArgs fd ⟨us, []⟩ = pure (ps.zip us)) : Binds K fd ps [] := fun s us _ hl => by
  rw [List.append_nil] at hl ⊢
  exact .of_eq (h us hl)

/-- an exception of a callee reaches what this body wants of exceptions -/
def Passes (CX : CXT) (X : Cx) (E : XK) : Prop := ∀ (pins : List (Addr × Obj)) (σ : St) (H : Hp) (s : Shared) (e : Value) (s' : Shared), Inv X pins σ H s → CX X.stack H s E e s' → X.xe e s'

section
variable {X : Cx} {CX : CXT} {k : Nat} {f C : Addr} {fd : FuncData} {ps : List Str} {sp : Sp} {dvs : List V} {ds : List Value} {E : XK} {x m : Str} {p pos apos : Pos} {e o : Expr} {es : List Expr} {ta : TE} {t : TA}

/-- the callee runs -/
theorem run_fn {pins : List (Addr × Obj)} {σ : St} {H : Hp} {s : Shared} {Q : VK} {us : List Value} {vs : List V} (F : FnOk X.prog X.w X.K X.mg X.base CX k f fd ps sp) (hr : Room k X.A) (hb : Binds X.K fd ps ds) (hd : Vals dvs ds) (hx : Passes CX X E)
    (I : Inv X pins σ H s) (r : Vals vs us) (h : sp (vs ++ dvs) H Q E) : wpAny (model X.prog X.w) X.A (call (.ref f) us) (EP X pins σ Q) X.xe s := by
  have r2 : Vals (vs ++ dvs) (us ++ ds) := r.append hd
  have hl : (us ++ ds).length = ps.length := by rw [← r2.length]; exact F.len _ _ _ _ h
  refine wpAny_call (codeAny_mono (F.run X.A X.stack s H ⟨us, []⟩ (us ++ ds) (vs ++ dvs) Q E hr I.env0 (hb s us I.kIn hl) r2 h) fun r s' hq => ?_)
  cases r with
  | error e => exact hx pins σ H s e s' I hq
  | ok fl =>
    cases fl with
    | ret u => exact I.after hq
    | next => exact False.elim hq
    | brk => exact False.elim hq
    | cont => exact False.elim hq

theorem pe_call (F : FnOk X.prog X.w X.K X.mg X.base CX k f fd ps sp) (hr : Room k X.A) (hg : Gl X x) (hm : X.mg x = some (.ref f)) (hk : PySem.W.keepIn X.K (.ref f) = true) (hb : Binds X.K fd ps ds) (hd : Vals dvs ds) (hx : Passes CX X E)
    (ha : PA X (e :: es) t) (hdb : (x == ("__debug__" : Str)) = false := by decide) (he : starEach (e :: es) X.env = (false, eval e X.env) :: starEach es X.env := by rfl) (hpl : (backTo pos (starEach es X.env)).any (·.1) = false := by rfl) :
    PE X (.Call (.Name x p) (e :: es) [] pos) (tCall sp dvs E t) := by
  intro pins s σ H Q I h
  refine wpAny_Call_Name_kw (ld_glob I hg hm ?_ hdb)
  refine PySem.W.callWith_K (h₀ := X.base) I.ok.mod.kin hk (thn (ha pos pins s σ H _ I h) fun us s1 ⟨vs, H1, I1, r, q⟩ => ⟨I1.kIn, ?_⟩) he hpl
  exact run_fn F hr hb hd hx I1 r q
end

/-! ### keywords -/
section
variable {X : Cx} {CX : CXT} {k : Nat} {f C : Addr} {fd : FuncData} {ps ks : List Str} {sp : Sp} {E : XK} {x m : Str} {p pos apos kpos : Pos} {e o : Expr} {es : List Expr} {kws : List Keyword} {te ta : TE} {t tk : TA} {nm : Option Str}
variable {g : List Value → List Value → List Value} {gV : List V → List V → List V}
end

/-! ### a def's body keeps its promise -/
/-- names: the parameters first -/
structure FnScope (N P : List Str) (sc : Scope) : Prop where
  kind : sc.kind = .function
  co : sc.isCoroutine = false
  gen : sc.isGenerator = false
  nd : N.Nodup
  pre : N.take P.length = P
  par : ∀ x ∈ P, sc.names.lookup x = some .local ∨ sc.names.lookup x = some .cell
  nofree : ∀ y ∈ sc.names, y.2 ≠ .free

theorem bindL_out {kindOf : Str → Option NameKind} {x : Str} : ∀ {binds : List (Str × Value)} {m : Str → Option Value}, (∀ v, (x, v) ∉ binds) → bindL kindOf binds m x = m x
  | [], _, _ => rfl
  | (n, v) :: r, m, h => by
    unfold bindL
    rw [bindL_out fun w hw => h w (List.mem_cons_of_mem _ hw)]
    split
    · have : x ≠ n := by rintro rfl; exact h v List.mem_cons_self
      simp [this]
    · rfl
theorem bindC_out {kindOf : Str → Option NameKind} {x : Str} : ∀ {binds : List (Str × Value)} {m : Str → Option Value}, (∀ v, (x, v) ∉ binds) → bindC kindOf binds m x = m x
  | [], _, _ => rfl
  | (n, v) :: r, m, h => by
    unfold bindC
    rw [bindC_out fun w hw => h w (List.mem_cons_of_mem _ hw)]
    split
    · rfl
    · have : x ≠ n := by rintro rfl; exact h v List.mem_cons_self
      simp [this]
theorem bindL_get {kindOf : Str → Option NameKind} {x : Str} {v : Value} : ∀ {P : List Str} {vs : List Value} {i : Nat} {m : Str → Option Value}, P.Nodup → P[i]? = some x → vs[i]? = some v → kindOf x = some .local →
    bindL kindOf (P.zip vs) m x = some v
  | [], _, _, _, _, h, _, _ => by simp at h
  | _ :: _, [], _, _, _, _, h, _ => by simp at h
  | p :: P, w :: vs, 0, m, nd, h1, h2, hk => by
    simp at h1 h2; subst h1; subst h2
    show bindL kindOf ((p, w) :: P.zip vs) m p = _
    unfold bindL
    rw [bindL_out fun v hv => (List.nodup_cons.mp nd).1 (List.of_mem_zip hv).1, if_pos hk]
    simp
  | p :: P, w :: vs, i + 1, m, nd, h1, h2, hk => by
    show bindL kindOf ((p, w) :: P.zip vs) m x = _
    unfold bindL
    exact bindL_get (i := i) (List.nodup_cons.mp nd).2 (by simpa using h1) (by simpa using h2) hk
theorem bindC_get {kindOf : Str → Option NameKind} {x : Str} {v : Value} : ∀ {P : List Str} {vs : List Value} {i : Nat} {m : Str → Option Value}, P.Nodup → P[i]? = some x → vs[i]? = some v → kindOf x ≠ some .local →
    bindC kindOf (P.zip vs) m x = some v
  | [], _, _, _, _, h, _, _ => by simp at h
  | _ :: _, [], _, _, _, _, h, _ => by simp at h
  | p :: P, w :: vs, 0, m, nd, h1, h2, hk => by
    simp at h1 h2; subst h1; subst h2
    show bindC kindOf ((p, w) :: P.zip vs) m p = _
    unfold bindC
    rw [bindC_out fun v hv => (List.nodup_cons.mp nd).1 (List.of_mem_zip hv).1, if_neg hk]
    simp
  | p :: P, w :: vs, i + 1, m, nd, h1, h2, hk => by
    show bindC kindOf ((p, w) :: P.zip vs) m x = _
    unfold bindC
    exact bindC_get (i := i) (List.nodup_cons.mp nd).2 (by simpa using h1) (by simpa using h2) hk

/-- the names' values at the entry -/
def start (N : List Str) (vs : List V) : St := vs.map some ++ List.replicate (N.length - vs.length) none

/-- the context of a def's body, at its entry; an exception leaves the frame, then lies as CX says -/
def cxOf (CX : CXT) (P : Program) (w : World) (K : PySem.W.Frag) (mg : Str → Option Value) (base : Heap) (N : List Str) (qual : Str) (scope : Scope) (f : Addr) (cd : Value) (A : Around) (outer : List Env) (s : Shared) (H : Hp) (E : XK) : Cx where
  prog := P
  w := w
  K := K
  mg := mg
  base := base
  A := A.deeper (envOfC qual scope s.heap.objs.size f cd)
  N := N
  s₀ := s
  H₀ := H
  env := envOfC qual scope s.heap.objs.size f cd
  outer := outer
  stack := envOfC qual scope s.heap.objs.size f cd :: outer
  ex := []
  calm := true
  fn := fun _ => true
  pn := []
  xe := fun e s' => wpAny (model P w) (A.deeper (envOfC qual scope s.heap.objs.size f cd)) (leaving (envOfC qual scope s.heap.objs.size f cd) e) (fun _ s'' => CX outer H s E e s'') (fun e' s'' => CX outer H s E e' s'') s'

theorem cell_has {sc : Scope} {n : Nat} {x : Str} (h : sc.names.lookup x = some .cell) : ∃ c, (cellsFrom n sc.names []).lookup x = some c := by
  have q := PySem.W.cellsFrom_some sc.names n [] (.inl h)
  exact Option.isSome_iff_exists.mp q

theorem inv_start {CX : CXT} {P : Program} {w : World} {K : PySem.W.Frag} {mg : Str → Option Value} {base : Heap} {N ps : List Str} {qual : Str} {scope : Scope} {f : Addr} {cd : Value} {A : Around} {outer : List Env} {s s1 : Shared} {H : Hp} {E : XK} {us : List Value} {vs : List V}
    (S : FnScope N ps scope) (hd : A.handled = none) (e0 : Env0 P w K mg base A outer s H) (hl : vs.length = ps.length) (r : Vals vs us)
    (x : InCallC s s.heap.objs.size (bindL (envOfC qual scope s.heap.objs.size f cd).kindOf (ps.zip us) fun _ => none) (cellsFrom (s.heap.objs.size + 1) scope.names []) (bindC (envOfC qual scope s.heap.objs.size f cd).kindOf (ps.zip us) fun _ => none) s1) :
    Inv (cxOf CX P w K mg base N qual scope f cd A outer s H E) [] (start N vs) H s1 := by
  have hpl : ps.length ≤ N.length := by have := congrArg List.length S.pre; rw [List.length_take] at this; omega
  obtain ⟨h1, tk, rfl, hk⟩ := x.done
  have noA : ∀ b : Addr, b ∉ (cxOf CX P w K mg base N qual scope f cd A outer s H E).ex := fun b z => absurd (show b ∈ ([] : List Addr) from z) (by simp)
  refine ⟨⟨e0.mod, S.kind, rfl, rfl, Nat.le_refl _, fun y z c h1 h2 => ?_, fun y hy => ?_, fun y c _ h => ?_, fun _ => hd, Around.frames_deeper e0.frames, .inr ⟨rfl, rfl⟩, fun b z => absurd z (noA b), e0.bs, e0.bsz, fun b _ _ => noA b, fun b z => absurd z (noA b), e0.funs, e0.frf⟩,
    rfl, e0.bare, Un.kept hk, ⟨_, x.toInCall.ns, fun i y v h1 h2 h3 => ?_⟩, fun y c h => ⟨_, x.cell y c h⟩, e0.hok.fresh (Nat.le_refl _), fun y c h => ?_, fun p hp => absurd (show p ∈ ([] : List (Addr × Obj)) from hp) (by simp), e0.hok.kept hk, ?_⟩
  · exact name_of_addr x.apart (PySem.mem_of_lookup h1) (PySem.mem_of_lookup h2)
  · have hy : scope.names.lookup y = some .cell ∨ scope.names.lookup y = some .free := hy
    rcases hy with hy | hy
    · exact cell_has hy
    · exact absurd rfl (S.nofree _ (PySem.mem_of_lookup hy))
  · exact Nat.le_of_lt (x.above y c (PySem.mem_of_lookup h))
  · have hi : i < vs.length := by
      unfold start at h2
      by_cases hi : i < vs.length
      · exact hi
      · rw [List.getElem?_append_right (by simpa using hi)] at h2
        rw [List.getElem?_replicate] at h2
        split at h2 <;> cases h2
    have ha : vs[i]? = some v := by
      unfold start at h2
      rw [List.getElem?_append_left (by simpa using hi), List.getElem?_map] at h2
      cases e : vs[i]? with
      | none => rw [e] at h2; cases h2
      | some a => rw [e] at h2; cases h2; rfl
    obtain ⟨u, hu, rv⟩ := r.get ha
    have hp : ps[i]? = some y := by
      rw [← S.pre, List.getElem?_take_of_lt (by omega)]; exact h1
    have ndP : ps.Nodup := by rw [← S.pre]; exact S.nd.sublist (List.take_sublist _ _)
    refine ⟨u, rv, ?_⟩
    rcases S.par y (List.mem_of_getElem? hp) with k | k
    · exact .inl ⟨k, bindL_get ndP hp hu k⟩
    · obtain ⟨c, e⟩ := cell_has (n := s.heap.objs.size + 1) k
      refine .inr ⟨.inl k, c, e, ?_⟩
      have q := x.cell y c e
      rw [bindC_get ndP hp hu (by show scope.names.lookup y ≠ _; rw [k]; decide)] at q
      exact q
  · exact e0.hok.fresh (Nat.le_of_lt (x.above y c (PySem.mem_of_lookup h)))
  · unfold start
    show _ = N.length
    rw [List.length_append, List.length_map, List.length_replicate]
    omega

/-- THE RULE: a def (or a method) of the text, by its body. The body's reading t is chosen for each entry; it is run at the parameters' values -/
theorem fn_of {CX : CXT} {P : Program} {w : World} {K : PySem.W.Frag} {mg : Str → Option Value} {base : Heap} {k : Nat} {f : Addr} {name qual : Str} {params : Arguments} {body : List Stmt} {scope : Scope} {dV kV doc pm cdv ct oc : Value} {an od : Option Addr}
    {osl : Array (Option Value)} {N ps : List Str} {sp : Sp} (lk : K.lookup f = some ⟨oc, od, .func (PySem.W.fnOf name qual params body scope dV kV doc pm an cdv ct), osl⟩) (hcd : PySem.W.codeIn K cdv qual = true) (S : FnScope N ps scope)
    (len : ∀ vs H Q E, sp vs H Q E → vs.length = ps.length)
    (hbody : ∀ (A : Around) (outer : List Env) (s : Shared) (H : Hp) (vs : List V) (Q : VK) (E : XK), Room k (A.deeper (envOfC qual scope s.heap.objs.size f cdv)) → sp vs H Q E →
      ∃ t, PSs (cxOf CX P w K mg base N qual scope f cdv A outer s H E) body t ∧ t { nx := fun _ H' => Q .non H', rt := Q } (start N vs) H) :
    FnOk P w K mg base CX (k + 1) f (PySem.W.fnOf name qual params body scope dV kV doc pm an cdv ct) ps sp := by
  refine ⟨len, fun A outer s H args us vs Q E hr e0 hb r hsp => ?_⟩
  have hl := len _ _ _ _ hsp
  have KX : K.In s.heap := e0.mod.kin.keeps fun b o e => (e0.bs b o e).1
  have lim : s.heap.NoLimit := e0.mod.nolimit.keeps fun b o e => (e0.bs b o e).1
  have hkind : ∀ y ∈ ps.zip us, scope.names.lookup y.1 = some .local ∨ (scope.names.lookup y.1 = some .cell ∧ ((cellsFrom (s.heap.objs.size + 1) scope.names []).lookup y.1).isSome = true) := fun ⟨n, v⟩ hy => by
    rcases S.par n (List.of_mem_zip hy).1 with q | q
    · exact .inl q
    · exact .inr ⟨q, PySem.W.cellsFrom_some _ _ _ (.inl q)⟩
  refine codeAny_call_function hr.depth (KX _ _ lk) rfl S.co S.gen rfl (PySem.W.codeRec_of KX hcd) (hb _ _ _ _ ?_)
  refine wpAny_newFunctionEnv_cells S.kind hkind fun env he s1 x => ?_
  subst he
  refine ⟨lim.keeps x.toInCall.keep, codeAny_func ?_⟩
  obtain ⟨t, ht, hq⟩ := hbody A outer s H vs Q E (hr.deeper _) hsp
  have I : Inv (cxOf CX P w K mg base N qual scope f cdv A outer s H E) [] (start N vs) H s1 := inv_start S hr.hd e0 hl r x
  refine wpAny_mono (ht [] s1 (start N vs) H _ I hq) (fun fl s' hs => ?_) fun e s' hs => hs
  have fin : ∀ {σ' : St} {H' : Hp} {v : V} {u : Value}, Inv (cxOf CX P w K mg base N qual scope f cdv A outer s H E) [] σ' H' s' → RelV v u → Q v H' → CE outer P w H s Q u s' :=
    fun {σ' H' v u} J rv q => ⟨v, H', J.os, J.bare, J.base, J.hok, rv, q⟩
  cases fl with
  | ret u =>
    obtain ⟨v, σ', H', J, rv, q⟩ := hs
    exact fin J rv q
  | next =>
    obtain ⟨σ', H', J, q⟩ := hs
    exact fin (v := V.non) (u := Value.none) J rfl q
  | brk =>
    obtain ⟨_, _, _, q⟩ := hs
    exact False.elim q
  | cont =>
    obtain ⟨_, _, _, q⟩ := hs
    exact False.elim q
end L2

namespace L2
open PySem PySem.Spec PyProof.Rows
section
variable {X : Cx} {x : Str} {p pos : Pos} {e : Expr} {es : List Expr} {t : TA} {id T : String} {r : List V → Hp → VK → Prop}

def tCB (r : List V → Hp → VK → Prop) (t : TA) : TE := fun σ H Q => t σ H fun vs H1 => r vs H1 Q
/-- f(e, ..), f a built-in function -/
theorem pe_callB (hc : CallR X (.builtin id) r) (hg : Gl X x) (hm : X.mg x = none) (hv : bootBuiltins x = some (.builtin id)) (ha : PA X (e :: es) t) (hn : x ≠ "__name__" := by decide) (hdb : (x == ("__debug__" : Str)) = false := by decide)
    (he : starEach (e :: es) X.env = (false, eval e X.env) :: starEach es X.env := by rfl) (hpl : (backTo pos (starEach es X.env)).any (·.1) = false := by rfl) : PE X (.Call (.Name x p) (e :: es) [] pos) (tCB r t) := by
  intro pins s σ H Q I h
  refine wpAny_Call_Name_kw (ld_blt I hg hm hv ?_ hn hdb)
  exact PyProof.Rows.callWith_builtin1 (thn (ha pos pins s σ H _ I h) fun us s1 ⟨vs, H1, I1, r1, q1⟩ => hc pins s1 σ H1 vs us Q I1 r1 q1) he hpl
/-- T(e, ..), T a built-in type -/
theorem pe_callTy (hc : CallR X (.type T) r) (hg : Gl X x) (hm : X.mg x = none) (hv : bootBuiltins x = some (.type T)) (ha : PA X (e :: es) t) (hn : x ≠ "__name__" := by decide) (hdb : (x == ("__debug__" : Str)) = false := by decide)
    (he : starEach (e :: es) X.env = (false, eval e X.env) :: starEach es X.env := by rfl) (hpl : (backTo pos (starEach es X.env)).any (·.1) = false := by rfl) : PE X (.Call (.Name x p) (e :: es) [] pos) (tCB r t) := by
  intro pins s σ H Q I h
  refine wpAny_Call_Name_kw (ld_blt I hg hm hv ?_ hn hdb)
  exact PyProof.Rows.callWith_type1 (thn (ha pos pins s σ H _ I h) fun us s1 ⟨vs, H1, I1, r1, q1⟩ => hc pins s1 σ H1 vs us Q I1 r1 q1) he hpl
end
end L2

namespace HT
open PySem PyProof.Rows

section
open PySem.SeqAt
open PySem.AutoSeq1 (wpAny_loadPart')
open PySem.MeetsSeq PySem.MeetsSeq2 PySem.MeetsSeq3

end

section
variable {prog : Program} {w : World} {A : Around} {E : Value → Shared → Prop} {s : Shared}

/-- t + u, t not empty -/
theorem cat_tup {t b : Addr} {vs ws : List Value} {Q : Value → Shared → Prop} (ht : IsTup s.heap t vs.toArray) (hb : IsTup s.heap b ws.toArray) (hv : vs ≠ [])
    (h1 : ws = [] → Q (.ref t) s) (h2 : ws ≠ [] → Q (.ref s.heap.objs.size) { s with heap := s.heap.push { cls := .type "tuple", data := .seq (vs ++ ws).toArray } })
    (hsz : vs.length + ws.length ≤ sizeLine) : wpAny (model prog w) A (binaryOp .Add (.ref t) (.ref b)) Q E s := by
  obtain ⟨⟨cls, dd, data, sl⟩, ho, hc, n, hd⟩ := id ht
  obtain ⟨⟨cls2, dd2, data2, sl2⟩, ho2, hc2, n2, hd2⟩ := id hb
  simp only at hc hd hc2 hd2
  subst hc hd hc2 hd2
  have e : vs.toArray ++ ws.toArray = (vs ++ ws).toArray := by simp
  by_cases hw : ws = []
  · exact concat_meets ⟨_, ho, rfl⟩ ⟨_, ho2, rfl⟩ noFill_tuple_add seq_tuple_add PySem.F.slot_tuple_add PySem.F.entry_tuple_add (PySem.F.args_tuple_add_2 _ _)
      (tuple_addW1 t b vs.toArray ws.toArray n n2 dd dd2 sl sl2 (by simpa using hv) (by simp [hw])) ⟨ho, ho2, h1 hw⟩
  · refine concat_meets ⟨_, ho, rfl⟩ ⟨_, ho2, rfl⟩ noFill_tuple_add seq_tuple_add PySem.F.slot_tuple_add PySem.F.entry_tuple_add (PySem.F.args_tuple_add_2 _ _)
      (tuple_addW2 t b vs.toArray ws.toArray n n2 dd dd2 sl sl2 (by simpa using hv) (by simpa using hw) (by rw [List.size_toArray, List.size_toArray]; exact hsz)) ⟨ho, ho2, ?_⟩
    rw [e]
    exact h2 hw

/-! ### t[a:b], not the whole -/
/-- a slice's bound as a place among n (d where it is left out) -/
def sIx (n d : Nat) : Option Int → Nat
  | none => d
  | some v => if v < 0 then (v + (n : Int)).toNat else min v.toNat n
theorem sIx_none (n d : Nat) : sIx n d none = d := rfl
theorem sIx_nat (n d k : Nat) : sIx n d (some (k : Int)) = min k n := by
  show (if (k : Int) < 0 then ((k : Int) + (n : Int)).toNat else min (k : Int).toNat n) = min k n
  rw [if_neg (by omega), Int.toNat_natCast]
theorem sIx_le (n d : Nat) (hd : d ≤ n) (o : Option Int) : sIx n d o ≤ n := by
  cases o with
  | none => exact hd
  | some v =>
    show (if v < 0 then (v + (n : Int)).toNat else min v.toNat n) ≤ n
    by_cases hv : v < 0
    · rw [if_pos hv]; omega
    · rw [if_neg hv]; exact Nat.min_le_right _ _
theorem clip_eq (v : Int) (n d : Nat) : (if v < 0 then max (v + (n : Int)) 0 else min v (n : Int)) = ((sIx n d (some v) : Nat) : Int) := by
  show (if v < 0 then max (v + (n : Int)) 0 else min v (n : Int)) = (((if v < 0 then (v + (n : Int)).toNat else min v.toNat n) : Nat) : Int)
  by_cases hv : v < 0
  · simp only [if_pos hv]; omega
  · simp only [if_neg hv]; omega
theorem adjust_gen (lo hi : Option Int) (n : Nat) : Builtin.Slice.sliceAdjust lo hi 1 (n : Int) = (((sIx n 0 lo : Nat) : Int), ((sIx n n hi : Nat) : Int)) := by
  have h1 : ¬ ((1 : Int) < 0) := by omega
  unfold Builtin.Slice.sliceAdjust
  simp only [h1, if_false]
  refine Prod.ext ?_ ?_
  · cases lo with
    | none => rfl
    | some v => exact clip_eq v n 0
  · cases hi with
    | none => rfl
    | some v => exact clip_eq v n n
theorem places_gen (i j : Nat) : Builtin.Slice.slicePlaces (i : Int) (j : Int) 1 = j - i := by
  unfold Builtin.Slice.slicePlaces
  have h1 : (1 : Int) > 0 := by omega
  simp only [h1, if_true, Int.ediv_one]
  split <;> omega
theorem slicePart_ {v : Value} {o : Option Int} {Q : Option Int → Shared → Prop} (p : IsPart v o) (h : Q o s) : wpAny (model prog w) A (Builtin.Slice.slicePartIndex v) Q E s := by
  cases p with
  | none => exact slicePart_none h
  | int i t => exact slicePart_int h
theorem sliceApplied_gen {sl : Addr} {vl vu : Value} {lo hi : Option Int} {n : Nat} {Q : Int × Int × Nat → Shared → Prop} (hs : s.heap.IsSliceOf sl vl vu .none) (pl : IsPart vl lo) (pu : IsPart vu hi)
    (h : Q (((sIx n 0 lo : Nat) : Int), 1, sIx n n hi - sIx n 0 lo) s) : wpAny (model prog w) A (Builtin.Slice.sliceApplied (.ref sl) (pure (n : Int))) Q E s := by
  obtain ⟨os, hos, hcs, hds⟩ := id hs
  unfold Builtin.Slice.sliceApplied Builtin.Slice.sliceFields
  refine wpAny_bind (wpAny_bind (wpAny_field hos hds (x := vl) rfl (wpAny_bind (wpAny_field hos hds (x := vu) rfl (wpAny_bind (wpAny_field hos hds (x := .none) rfl (wpAny_pure ?_)))))))
  refine wpAny_bind (slicePart_none ?_)
  show wpAny _ _ (if ((1 : Int) == 0) = true then _ else _) _ _ s
  rw [if_neg (by decide)]
  refine wpAny_bind (slicePart_ pl (wpAny_bind (slicePart_ pu (wpAny_bind (wpAny_pure ?_)))))
  show wpAny _ _ (match Builtin.Slice.sliceAdjust lo hi 1 (n : Int) with | (lo, hi) => pure (lo, (1 : Int), Builtin.Slice.slicePlaces lo hi 1)) _ _ s
  rw [adjust_gen lo hi n]
  show wpAny _ _ (pure (((sIx n 0 lo : Nat) : Int), (1 : Int), Builtin.Slice.slicePlaces ((sIx n 0 lo : Nat) : Int) ((sIx n n hi : Nat) : Int) 1)) _ _ s
  rw [places_gen]
  exact wpAny_pure h
theorem pick_gen (xs : Array Value) (i k : Nat) : ((List.range k).filterMap fun (m : Nat) => xs[((i : Int) + (m : Int) * 1).toNat]?).toArray = ((xs.toList.drop i).take k).toArray := by
  have e : (fun (m : Nat) => xs[((i : Int) + (m : Int) * 1).toNat]?) = fun m => xs[i + m]? := by
    funext m
    have : ((i : Int) + (m : Int) * 1).toNat = i + m := by omega
    rw [this]
  rw [e]
  have := pick_run xs i k
  rw [List.filterMap_map] at this
  have e2 : ((fun x => xs[x]?) ∘ fun x => i + x) = fun m => xs[i + m]? := rfl
  rw [e2] at this
  rw [this]

theorem getItem_tuple_cut {t sl : Addr} {items : Array Value} {vl vu : Value} {lo hi : Option Int} {Q : Value → Shared → Prop} (ht : IsTup s.heap t items) (hs : s.heap.IsSliceOf sl vl vu .none) (pl : IsPart vl lo) (pu : IsPart vu hi)
    (hw : ¬ (sIx items.size 0 lo = 0 ∧ sIx items.size items.size hi = items.size))
    (h : Q (.ref s.heap.objs.size) { s with heap := s.heap.push { cls := .type "tuple", data := .seq ((items.toList.drop (sIx items.size 0 lo)).take (sIx items.size items.size hi - sIx items.size 0 lo)).toArray } })
    (hsz : items.size ≤ sizeLine) : wpAny (model prog w) A (getItem (.ref t) (.ref sl)) Q E s := by
  have htake : sizeOk (.seq ((items.toList.drop (sIx items.size 0 lo)).take (sIx items.size items.size hi - sIx items.size 0 lo)).toArray) := by
    show ((items.toList.drop (sIx items.size 0 lo)).take (sIx items.size items.size hi - sIx items.size 0 lo)).toArray.size ≤ sizeLine
    rw [List.size_toArray, List.length_take, List.length_drop, Array.length_toList]
    omega
  have hj : sIx items.size items.size hi ≤ items.size := sIx_le _ _ (Nat.le_refl _) hi
  obtain ⟨os, hos, hcs, hds⟩ := id hs
  have hTs : s.TypeIs (.ref sl) "slice" := ⟨os, hos, hcs⟩
  unfold getItem
  try with_reducible refine wpAny_holding ?_
  first | refine wpAny_bind (wpAny_pure ?_) | skip
  refine wpAny_bind (wpAny_sequenceKey ht.typeIs (by decide) ?_)
  refine wpAny_bind (wpAny_callSpecial?_slot (name := Str.ofString "__getitem__") ht.typeIs PyProof.Rows.slot_tuple_getitem
    (wpAny_call_entry PyProof.Rows.slot_tuple_getitem ht.typeIs entry_tuple_getitem ?_ (args_tuple_getitem _ _)))
  show wpAny _ _ (Builtin.Tuple.tupleItemsOf (.ref t) >>= _) _ _ s
  refine wpAny_bind (tupleItemsOf_ ht ?_)
  refine wpAny_bind (wpAny_typeOf hTs ?_)
  rw [if_pos (by decide)]
  refine wpAny_bind (sliceApplied_gen hs pl pu ?_)
  have hno : ¬ ((((sIx items.size 0 lo : Nat) : Int) == 0 && (1 : Int) == 1 && (sIx items.size items.size hi - sIx items.size 0 lo) == items.size) = true) := by
    intro q
    rw [Bool.and_eq_true, Bool.and_eq_true] at q
    have q1 : ((sIx items.size 0 lo : Nat) : Int) = 0 := eq_of_beq q.1.1
    have q2 : sIx items.size items.size hi - sIx items.size 0 lo = items.size := eq_of_beq q.2
    exact hw ⟨by omega, by omega⟩
  show wpAny _ _ (if (((sIx items.size 0 lo : Nat) : Int) == 0 && (1 : Int) == 1 && (sIx items.size items.size hi - sIx items.size 0 lo) == items.size) = true then _ else _) _ _ s
  rw [if_neg hno, pick_gen]
  first
    | exact wpAny_bind (m := Builtin.Tuple.tupleExact _) (wpAny_newObj_type (wpAny_pure ⟨_, rfl, wpAny_pure h⟩) htake)
    | exact wpAny_bind (m := Builtin.Tuple.tupleExact _) (wpAny_newObj_type (wpAny_bind (wpAny_pure (wpAny_pure ⟨_, rfl, wpAny_pure h⟩))) htake)
    | exact wpAny_bind (wpAny_bind (m := Builtin.Tuple.tupleExact _) (wpAny_newObj_type (wpAny_pure (wpAny_pure ⟨_, rfl, wpAny_pure h⟩)) htake))
    | exact wpAny_bind (wpAny_bind (m := Builtin.Tuple.tupleExact _) (wpAny_newObj_type (wpAny_pure ⟨_, rfl, wpAny_pure h⟩) htake))
end
end HT

namespace L2
open PySem PySem.Spec PyProof.Rows

/-! ### the parts of a slice -/
abbrev TO := St → Hp → (Option Int → Hp → Prop) → Prop
/-- a slice's part (left out, or an int) -/
def PO (X : Cx) (e : Option Expr) (t : TO) : Prop :=
  ∀ (pins : List (Addr × Obj)) (s : Shared) (σ : St) (H : Hp) (Q : Option Int → Hp → Prop), Inv X pins σ H s → t σ H Q →
    wpAny (model X.prog X.w) X.A (evalPart e X.env) (fun u s' => ∃ o H', Inv X pins σ H' s' ∧ IsPart u o ∧ Q o H') X.xe s
def tNoPart : TO := fun _ H Q => Q none H
def tPart (t : TE) : TO := fun σ H Q => t σ H fun x H1 => ∃ i, x = .int i ∧ Q (some i) H1

section
variable {X : Cx} {e : Expr} {te : TE} {lo hi : Option Expr} {tl th : TO} {pos p2 : Pos}

theorem po_none : PO X none tNoPart := by
  intro pins s σ H Q I h
  rw [evalPart_none]
  exact wpAny_pure ⟨none, H, I, .none, h⟩
theorem po_some (h : PE X e te) : PO X (some e) (tPart te) := by
  intro pins s σ H Q I hw
  rw [evalPart_some]
  refine thn (h pins s σ H _ I hw) fun u s1 ⟨x, H1, I1, r1, q1⟩ => ?_
  obtain ⟨i, rfl, q⟩ := q1
  obtain ⟨t, rfl⟩ := r1
  exact ⟨some i, H1, I1, .int i t, q⟩

/-- what a slice of a value is, by values: the slice object stands at sl -/
def SlR (X : Cx) (r : V → Option Int → Option Int → Hp → VK → Prop) : Prop :=
  ∀ (pins : List (Addr × Obj)) (s : Shared) (σ : St) (H : Hp) (x : V) (v vl vu : Value) (lo hi : Option Int) (sl : Addr) (Q : VK), Inv X pins σ H s → RelV x v → s.heap.IsSliceOf sl vl vu .none → IsPart vl lo → IsPart vu hi → r x lo hi H Q →
    ∃ T id, typeLookup (.type T) "__getitem__" = pure (some (.builtin id)) ∧ s.TypeIs v T ∧ wpAny (model X.prog X.w) X.A (getItem v (.ref sl)) (EP X pins σ Q) X.xe s
def tSl (r : V → Option Int → Option Int → Hp → VK → Prop) (te : TE) (tl th : TO) : TE := fun σ H Q => te σ H fun x H1 => tl σ H1 fun l H2 => th σ H2 fun u H3 => r x l u H3 Q
/-- a[lo:hi], any a -/
theorem pe_slice {r : V → Option Int → Option Int → Hp → VK → Prop} (hr : SlR X r) (he : PE X e te) (hl : PO X lo tl) (hu : PO X hi th) : PE X (.Subscript e (.Slice lo hi none p2) pos) (tSl r te tl th) := by
  intro pins s σ H Q I h
  refine Subscript_ (thn (he pins s σ H _ I h) fun v s1 ⟨x, H1, I1, r1, q1⟩ => ?_)
  refine wpAny_Slice (thn (hl pins s1 σ H1 _ I1 q1) fun vl s2 ⟨l, H2, I2, pl, q2⟩ => thn (hu pins s2 σ H2 _ I2 q2) fun vu s3 ⟨u, H3, I3, pu, q3⟩ => ?_)
  rw [evalPart_none]
  refine wpAny_pure ?_
  have I4 : Inv X pins σ H3 { s3 with heap := s3.heap.push { cls := .type "slice", data := .fields #[vl, vu, .none] } } := I3.kept (t' := s3.toks) fun b ob q => Heap.get?_push_of_some _ q
  obtain ⟨T, id, hT, ht, hg⟩ := hr pins { s3 with heap := s3.heap.push { cls := .type "slice", data := .fields #[vl, vu, .none] } } σ H3 x v vl vu l u s3.heap.objs.size Q I4 r1 (Heap.IsSliceOf.new ..) pl pu q3
  show wpAny (model X.prog X.w) X.A (subscriptTail e (.Slice lo hi none p2) v (.ref s3.heap.objs.size)) (EP X pins σ Q) X.xe { s3 with heap := s3.heap.push { cls := .type "slice", data := .fields #[vl, vu, .none] } }
  exact tail_any (ops := [.ref s3.heap.objs.size, v]) ht hT hg (by with_unfolding_all rfl)

/-- the items of xs[lo:hi] -/
def cutV (xs : List V) (lo hi : Option Int) : List V := (xs.drop (HT.sIx xs.length 0 lo)).take (HT.sIx xs.length xs.length hi - HT.sIx xs.length 0 lo)
theorem cutV_length (xs : List V) (lo hi : Option Int) : (cutV xs lo hi).length ≤ xs.length := by
  unfold cutV
  rw [List.length_take, List.length_drop]
  omega
/-- t[lo:hi], not the whole of it (the whole would be t itself) -/
def rSlT (K : PySem.W.Frag) : V → Option Int → Option Int → Hp → VK → Prop := fun x lo hi H Q => ∃ a xs, x = .ref a ∧ SqT K H a xs ∧
  ¬ (HT.sIx xs.length 0 lo = 0 ∧ HT.sIx xs.length xs.length hi = xs.length) ∧ ∀ p, H p = none → Q (.ref p) (upd H p (.tup (cutV xs lo hi)))
theorem sl_tup : SlR X (rSlT X.K) := by
  intro pins s σ H x v vl vu lo hi sl Q I rx hs pl pu h
  obtain ⟨a, xs, rfl, hx, hw, q⟩ := h
  cases rx
  obtain ⟨its, r, ht, hz⟩ := I.tuple hx
  have hlen : its.toArray.size = xs.length := by rw [List.size_toArray]; exact r.length.symm
  refine ⟨"tuple", _, PyProof.Rows.slot_tuple_getitem.lookup, ht.typeIs, ?_⟩
  refine HT.getItem_tuple_cut ht hs pl pu (by rw [hlen]; exact hw) ?_ (by rw [hlen]; exact hz)
  rw [hlen]
  refine ⟨.ref s.heap.objs.size, _, I.laid (t' := s.toks) (o := .tup (cutV xs lo hi)) (fun b ob q => Heap.get?_push_of_some _ q) (Nat.le_refl _) ?_, rfl, q _ (I.hok.fresh (Nat.le_refl _))⟩
  exact ⟨Nat.le_trans (cutV_length xs lo hi) hz, _, (r.drop (HT.sIx xs.length 0 lo)).take (HT.sIx xs.length xs.length hi - HT.sIx xs.length 0 lo), IsTup.new _ _⟩

/-! ### t < u, t + u -/
/-- t + u, t not empty: u empty gives t itself -/
def rCatT (K : PySem.W.Frag) : R2 := fun x y H Q => ∃ a b xs ys, x = .ref a ∧ y = .ref b ∧ SqT K H a xs ∧ SqT K H b ys ∧ xs ≠ [] ∧ xs.length + ys.length ≤ sizeLine ∧
  (ys = [] → Q (.ref a) H) ∧ (ys ≠ [] → ∀ p, H p = none → Q (.ref p) (upd H p (.tup (xs ++ ys))))
theorem Vals.nil_iff {xs : List V} {us : List Value} (r : Vals xs us) : us = [] ↔ xs = [] := by
  cases r with
  | nil => simp
  | cons _ _ => simp
theorem op_catT : OpR X (binaryOp .Add) (rCatT X.K) := by
  intro pins s σ H x y v u Q I rx ry h
  obtain ⟨a, b, xs, ys, rfl, rfl, ha, hb, hx, hz, q1, q2⟩ := h
  cases rx
  cases ry
  obtain ⟨its, r1, p1, _⟩ := I.tuple ha
  obtain ⟨its2, r2, p2, _⟩ := I.tuple hb
  refine HT.cat_tup p1 p2 (fun z => hx (r1.nil_iff.mp z)) (fun z => ⟨.ref a, H, I, rfl, q1 (r2.nil_iff.mp z)⟩) (fun z => ?_) (by rw [← r1.length, ← r2.length]; exact hz)
  refine ⟨.ref s.heap.objs.size, _, I.laid (t' := s.toks) (o := .tup (xs ++ ys)) (fun b ob q => Heap.get?_push_of_some _ q) (Nat.le_refl _) ?_, rfl, q2 (fun w => z (r2.nil_iff.mpr w)) _ (I.hok.fresh (Nat.le_refl _))⟩
  exact ⟨by rw [List.length_append]; exact hz, _, r1.append r2, IsTup.new _ _⟩
end
end L2

namespace L2
open PySem PySem.Spec PyProof.Rows

/-! ### places -/
/-- the place that an index of any sign means -/
def ixN (n : Nat) (i : Int) : Option Nat := if 0 ≤ i then (if i < n then some i.toNat else none) else if -(n : Int) ≤ i then some (i + n).toNat else none
def atI {α : Type} (xs : List α) (i : Int) : Option α := (ixN xs.length i).bind fun j => xs[j]?
theorem ixN_seq {n : Nat} {i : Int} {j : Nat} (h : ixN n i = some j) : seqIndex? i n = some j ∧ j < n ∧ -(n : Int) ≤ i ∧ i < n := by
  unfold ixN at h
  by_cases h0 : 0 ≤ i
  · rw [if_pos h0] at h
    by_cases h1 : i < n
    · rw [if_pos h1] at h
      have e : i.toNat = j := Option.some.inj h
      exact ⟨by rw [seqIndex_of h0 h1, e], by omega, by omega, h1⟩
    · rw [if_neg h1] at h; cases h
  · rw [if_neg h0] at h
    by_cases h1 : -(n : Int) ≤ i
    · rw [if_pos h1] at h
      have e : (i + n).toNat = j := Option.some.inj h
      exact ⟨by rw [seqIndex_neg (by omega) h1, e], by omega, h1, by omega⟩
    · rw [if_neg h1] at h; cases h
theorem atI_get {α : Type} {xs : List α} {i : Int} {v : α} (h : atI xs i = some v) : ∃ j, seqIndex? i xs.length = some j ∧ xs[j]? = some v ∧ j < xs.length ∧ -(xs.length : Int) ≤ i ∧ i < xs.length := by
  unfold atI at h
  cases e : ixN xs.length i with
  | none => rw [e] at h; cases h
  | some j =>
    rw [e] at h
    obtain ⟨h1, h2, h3, h4⟩ := ixN_seq e
    exact ⟨j, h1, h, h2, h3, h4⟩
theorem atI_nat {α : Type} {xs : List α} {j : Nat} {v : α} (h : xs[j]? = some v) : atI xs (j : Int) = some v := by
  have hj : j < xs.length := (List.getElem?_eq_some_iff.mp h).1
  have e : ixN xs.length (j : Int) = some j := by
    unfold ixN
    rw [if_pos (by omega), if_pos (by omega)]; simp
  unfold atI; rw [e]; exact h
/-! ### what may be subscripted -/
/-- what stands as an index of a plain subscript -/
def PlainIx (b : Expr) : Prop := ∀ o i, subscripted b false o i = operate [o, i] (getItem o i)
/-- a subscript by values -/
def IxR (X : Cx) (r : R2) : Prop :=
  ∀ (value slice : Expr) (pins : List (Addr × Obj)) (s : Shared) (σ : St) (H : Hp) (x y : V) (v u : Value) (Q : VK), Inv X pins σ H s → RelV x v → RelV y u → r x y H Q →
    subscripted slice false v u = operate [v, u] (getItem v u) → wpAny (model X.prog X.w) X.A (subscriptTail value slice v u) (EP X pins σ Q) X.xe s
/-- a call of a builtin's method by values: the receiver, the arguments -/
def MtR (X : Cx) (id : String) (r : V → List V → Hp → VK → Prop) : Prop :=
  ∀ (pins : List (Addr × Obj)) (s : Shared) (σ : St) (H : Hp) (x : V) (xs : List V) (v : Value) (us : List Value) (Q : VK), Inv X pins σ H s → RelV x v → Vals xs us → r x xs H Q →
    wpAny (model X.prog X.w) X.A (call (.builtin id) (v :: us)) (EP X pins σ Q) X.xe s
section
variable {X : Cx} {a b : Expr} {ta tb : TE} {pos : Pos}
/-- a[b] -/
theorem pe_ix {r : R2} (hr : IxR X r) (ha : PE X a ta) (hb : PE X b tb) (hs : PlainIx b) : PE X (.Subscript a b pos) (tOp r ta tb) := by
  intro pins s σ H Q I h
  exact Subscript_ (binT ha hb I h fun v u s2 x y H2 I2 rx ry q => hr a b pins s2 σ H2 x y v u Q I2 rx ry q (hs _ _))

def rIxL (K : PySem.W.Frag) : R2 := fun x y H Q => ∃ p xs i v, x = .ref p ∧ y = .int i ∧ SqL K H p xs ∧ atI xs i = some v ∧ Q v H
def rIxT (K : PySem.W.Frag) : R2 := fun x y H Q => ∃ p xs i v, x = .ref p ∧ y = .int i ∧ SqT K H p xs ∧ atI xs i = some v ∧ Q v H
theorem ix_list : IxR X (rIxL X.K) := by
  intro value slice pins s σ H x y v u Q I rx ry h hs
  obtain ⟨p, xs, i, z, rfl, rfl, hq, he, q⟩ := h
  cases rx
  obtain ⟨t, rfl⟩ := ry
  obtain ⟨its, r, pl, hz⟩ := I.list hq
  obtain ⟨j, h1, h2, h3, h4, h5⟩ := atI_get he
  obtain ⟨w, ew, rw'⟩ := r.get h2
  have hl := r.length
  have hn := line63
  have fin : EP X pins σ Q w s := ⟨z, H, I, rw', q⟩
  by_cases h0 : 0 ≤ i
  · have hj : i.toNat = j := by
      rw [seqIndex_of h0 h5] at h1
      exact Option.some.inj h1
    exact item_listR pl.isList h0 (by omega) (by rw [hj]; simpa using ew) fin hs
  · have hj : (i + (its.toArray.size : Int)).toNat = j := by
      rw [seqIndex_neg (by omega) h4] at h1
      rw [List.size_toArray, ← hl]
      exact Option.some.inj h1
    exact subscriptTail_builtinR (x := w) pl.isList.typeIs slot_list_getitem.lookup
      (wpAny_getItem_list_neg (Q := fun r s' => r = w ∧ EP X pins σ Q r s') pl.isList (by omega) (by rw [List.size_toArray] <;> omega) (by omega) (by rw [hj]; simpa using ew) ⟨rfl, fin⟩) hs
theorem ix_tup : IxR X (rIxT X.K) := by
  intro value slice pins s σ H x y v u Q I rx ry h hs
  obtain ⟨p, xs, i, z, rfl, rfl, hq, he, q⟩ := h
  cases rx
  obtain ⟨t, rfl⟩ := ry
  obtain ⟨its, r, pl, hz⟩ := I.tuple hq
  obtain ⟨j, h1, h2, h3, h4, h5⟩ := atI_get he
  obtain ⟨w, ew, rw'⟩ := r.get h2
  have hl := r.length
  have hn := line63
  have fin : EP X pins σ Q w s := ⟨z, H, I, rw', q⟩
  exact subscriptTail_builtinR (x := w) pl.typeIs slot_tuple_getitem.lookup
    (getItem_tuple (j := j) (Q := fun r s' => r = w ∧ EP X pins σ Q r s') pl (by omega) (by omega) (by rw [List.size_toArray, ← hl]; exact h1) (by simpa using ew) ⟨rfl, fin⟩) hs
/-! ### xs[i] = v, any sign -/
/-- the list's object behind a store -/
theorem mapSeq_set (its : List Value) (n j : Nat) (u : Value) : Obj.mapSeq (·.setIfInBounds j u) { cls := .type "list", data := .seq its.toArray n } = { cls := .type "list", data := .seq (its.set j u).toArray n } := by
  simp [Obj.mapSeq]
theorem Inv.lst {pins : List (Addr × Obj)} {σ : St} {H : Hp} {s : Shared} {p : Addr} {xs : List V} (I : Inv X pins σ H s) (h : H p = some (.lst xs)) :
    ∃ (its : List Value) (n : Nat), Vals xs its ∧ s.heap.get? p = some { cls := .type "list", data := .seq its.toArray n } ∧ xs.length ≤ sizeLine := by
  obtain ⟨z, its, n, r, e⟩ := I.hok p _ h
  exact ⟨its, n, r, e, z⟩
/-- the list at p is written by an update of its object -/
theorem Inv.lstUpd {pins : List (Addr × Obj)} {σ : St} {H : Hp} {s : Shared} {p : Addr} {xs ys : List V} {its its' : List Value} {n n' : Nat} {f : Obj → Obj} (I : Inv X pins σ H s) (h : H p = some (.lst xs))
    (ho : s.heap.get? p = some { cls := .type "list", data := .seq its.toArray n }) (hf : f { cls := .type "list", data := .seq its.toArray n } = { cls := .type "list", data := .seq its'.toArray n' }) (r : Vals ys its') (hz : ys.length ≤ sizeLine) (t : Nat) :
    Inv X pins σ (upd H p (.lst ys)) { s with heap := s.heap.update p f, toks := t } := by
  have e : (s.heap.update p f).get? p = some { cls := .type "list", data := .seq its'.toArray n' } := by
    rw [Heap.get?_update_self f ho (by rw [hf] <;> rfl), hf]
  refine I.write (x := p) (e := p) (by rw [h]; trivial) (.inl rfl) (fun b u hb q => (Heap.get?_update_other _ _ (Ne.symm hb)).trans q) ⟨_, e⟩ ?_
  exact ⟨hz, its', n', r, e⟩
def rSetL : V → V → V → Hp → (Hp → Prop) → Prop := fun o i v H Q => ∃ p xs k j, o = .ref p ∧ i = .int k ∧ H p = some (.lst xs) ∧ ixN xs.length k = some j ∧ Q (upd H p (.lst (xs.set j v)))
theorem set_list : PSet X rSetL := by
  intro pins s σ H o i v ov iv u Q I ro ri rv h
  obtain ⟨p, xs, k, j, rfl, rfl, hp, hj, q⟩ := h
  cases ro
  obtain ⟨t, rfl⟩ := ri
  obtain ⟨its, n, r, ho, hz⟩ := I.lst hp
  obtain ⟨h1, h2, h3, h4⟩ := ixN_seq hj
  have hl := r.length
  have hn := line63
  have I' : Inv X pins σ (upd H p (.lst (xs.set j v))) { s with heap := s.heap.update p (Obj.mapSeq (·.setIfInBounds j u)) } :=
    I.lstUpd hp ho (mapSeq_set its n j u) (r.set rv j) (by rw [List.length_set]; exact hz) s.toks
  by_cases h0 : 0 ≤ k
  · have hk : k.toNat = j := by
      rw [seqIndex_of h0 h4] at h1
      exact Option.some.inj h1
    exact PySem.W.ki_setAt ho h0 (by omega) (by rw [List.size_toArray, ← hl]; exact h4) (by rw [hk]; exact ⟨_, I', q⟩)
  · have hk : (k + (its.toArray.size : Int)).toNat = j := by
      rw [seqIndex_neg (by omega) h3] at h1
      rw [List.size_toArray, ← hl]
      exact Option.some.inj h1
    exact PySem.W.ki_setBack ho (by omega) (by rw [List.size_toArray, ← hl]; exact h3) (by omega) (by rw [hk]; exact ⟨_, I', q⟩)

/-! ### slices -/
theorem slice_bounds (lo hi : Option Int) (n : Nat) : (sliceBounds lo hi none n).1 = ((HT.sIx n 0 lo : Nat) : Int) ∧ (sliceBounds lo hi none n).2.1 = ((HT.sIx n n hi : Nat) : Int) ∧ (sliceBounds lo hi none n).2.2 = 1 := by
  refine ⟨?_, ?_, rfl⟩
  · cases lo with
    | none => simp [sliceBounds, HT.sIx]
    | some i =>
      simp only [sliceBounds, HT.sIx, Option.getD_none, show (1 : Int) > 0 by decide, if_true]
      by_cases h : i < 0
      · simp only [h, if_true] <;> omega
      · simp only [h, if_false] <;> omega
  · cases hi with
    | none => simp [sliceBounds, HT.sIx]
    | some i =>
      simp only [sliceBounds, HT.sIx, Option.getD_none, show (1 : Int) > 0 by decide, if_true]
      by_cases h : i < 0
      · simp only [h, if_true] <;> omega
      · simp only [h, if_false] <;> omega
theorem slicePick_cut (its : List Value) (lo hi : Option Int) : slicePick its.toArray lo hi none = ((its.drop (HT.sIx its.length 0 lo)).take (HT.sIx its.length its.length hi - HT.sIx its.length 0 lo)).toArray := by
  obtain ⟨h1, h2, h3⟩ := slice_bounds lo hi its.toArray.size
  unfold slicePick
  rw [h1, h2, h3]
  simp only [sliceRange_one, pick_run, List.size_toArray] <;> rfl
/-- xs[lo:hi] of a list: a new list -/
def rSlL (K : PySem.W.Frag) : V → Option Int → Option Int → Hp → VK → Prop := fun x lo hi H Q => ∃ a xs, x = .ref a ∧ SqL K H a xs ∧ ∀ p, H p = none → Q (.ref p) (upd H p (.lst (cutV xs lo hi)))
theorem sl_list : SlR X (rSlL X.K) := by
  intro pins s σ H x v vl vu lo hi sl Q I rx hs pl pu h
  obtain ⟨a, xs, rfl, hx, q⟩ := h
  cases rx
  obtain ⟨its, r, ht, hz⟩ := I.list hx
  have hlen := r.length
  refine ⟨"list", _, slot_list_getitem.lookup, ht.isList.typeIs, ?_⟩
  refine wpAny_getItem_list_slice ht.isList hs pl pu .none (by simp) ?_ (by rw [List.size_toArray] <;> omega)
  rw [slicePick_cut, ← hlen]
  refine ⟨.ref s.heap.objs.size, _, I.laid (t' := s.toks) (o := .lst (cutV xs lo hi)) (fun b ob q => Heap.get?_push_of_some _ q) (Nat.le_refl _) ?_, rfl, q _ (I.hok.fresh (Nat.le_refl _))⟩
  exact ⟨Nat.le_trans (cutV_length xs lo hi) hz, _, 0, (r.drop (HT.sIx xs.length 0 lo)).take (HT.sIx xs.length xs.length hi - HT.sIx xs.length 0 lo), Heap.get?_push_size _ rfl⟩

/-! ### in, not in: flat items -/
/-! ### len, list(x), tuple(x) of any list or tuple that is read -/
theorem call_len_seq : CallR X (.builtin "len") (fun xs H Q => ∃ p ys, xs = [.ref p] ∧ (SqL X.K H p ys ∨ SqT X.K H p ys) ∧ Q (.int ys.length) H) := by
  intro pins s σ H xs us Q I r h
  obtain ⟨p, ys, rfl, hq, q⟩ := h
  obtain ⟨u, rfl, rx⟩ := vals1 r
  cases rx
  have hn := line63
  rcases hq with hq | hq
  · obtain ⟨its, r', pl, hz⟩ := I.list hq
    have hlen := r'.length
    exact Calls.call_len_list pl.isList (by simp only [List.size_toArray] <;> omega) ⟨.int ys.length, H, I.tok _, ⟨s.toks + 1, by rw [List.size_toArray, hlen]⟩, q⟩
  · obtain ⟨its, r', pl, hz⟩ := I.tuple hq
    have hlen := r'.length
    exact len_tuple pl (by simp only [List.size_toArray] <;> omega) ⟨.int ys.length, H, I.tok _, ⟨s.toks + 1, by rw [List.size_toArray, hlen]⟩, q⟩
theorem call_list_of : CallR X (.type "list") (fun xs H Q => ∃ p ys, xs = [.ref p] ∧ (SqL X.K H p ys ∨ SqT X.K H p ys) ∧ ∀ l, H l = none → Q (.ref l) (upd H l (.lst ys))) := by
  intro pins s σ H xs us Q I r h
  obtain ⟨p, ys, rfl, hq, q⟩ := h
  obtain ⟨u, rfl, rx⟩ := vals1 r
  cases rx
  have fin : ∀ (its : List Value), Vals ys its → ys.length ≤ sizeLine → ∀ (h' : Heap) (c' : Nat), (∀ b o', s.heap.get? b = some o' → h'.get? b = some o') →
      h'.get? s.heap.objs.size = some { cls := .type "list", dict := none, data := .seq its.toArray c', slots := #[] } → EP X pins σ Q (.ref s.heap.objs.size) { s with heap := h' } := fun its r' hz h' c' kp e =>
    ⟨.ref s.heap.objs.size, _, I.laid (t' := s.toks) kp (Nat.le_refl _) (show ObjOk X.prog X.w _ h' _ (.lst ys) from ⟨hz, its, c', r', e⟩), rfl, q _ (I.hok.fresh (Nat.le_refl _))⟩
  rcases hq with hq | hq
  · obtain ⟨its, r', pl, hz⟩ := I.list hq
    have hlen := r'.length
    obtain ⟨o, ho, hc, n, hd⟩ := pl.isList
    exact call_list_seq p (.inl rfl) ho hc hd (fun h' c' kp e => fin its r' hz h' c' kp e) (by simp only [List.size_toArray] <;> omega)
  · obtain ⟨its, r', pl, hz⟩ := I.tuple hq
    have hlen := r'.length
    obtain ⟨o, ho, hc, n, hd⟩ := pl
    exact call_list_seq p (.inr rfl) ho hc hd (fun h' c' kp e => fin its r' hz h' c' kp e) (by simp only [List.size_toArray] <;> omega)
/-! ### the call of a builtin's method: o.m(..) -/
/-- the value is of that builtin type -/
def tyV (K : PySem.W.Frag) (T : String) (x : V) (H : Hp) : Prop := match x with
  | .str _ => T = "str"
  | .int _ => T = "int"
  | .ref p => (T = "list" ∧ ∃ xs, SqL K H p xs) ∨ (T = "tuple" ∧ ∃ o, K.lookup p = some o ∧ o.cls = .type "tuple" ∧ o.dict = none) ∨
      (T = "dict" ∧ ((∃ kvs, H p = some (.dK kvs)) ∨ ∃ kvs, H p = some (.dT kvs))) ∨ (T = "set" ∧ ∃ S n, H p = some (.set S n))
  | _ => False
theorem tyV_is {pins : List (Addr × Obj)} {σ : St} {H : Hp} {s : Shared} {T : String} {x : V} {v : Value} (I : Inv X pins σ H s) (r : RelV x v) (ty : tyV X.K T x H) :
    s.TypeIs v T ∧ ∀ a, v = .ref a → ∃ ob, s.heap.get? a = some ob ∧ ob.dict = none := by
  cases x with
  | str z =>
    obtain ⟨t, rfl⟩ := r
    cases (show T = "str" from ty)
    exact ⟨typeIs_str s z t, fun _ e => nomatch e⟩
  | int i =>
    obtain ⟨t, rfl⟩ := r
    cases (show T = "int" from ty)
    exact ⟨typeIs_int s i t, fun _ e => nomatch e⟩
  | ref p =>
    cases r
    rcases ty with ⟨rfl, xs, hq⟩ | ⟨rfl, o, hk, hc, hd⟩ | ⟨rfl, hk⟩ | ⟨rfl, S, n, hk⟩
    · obtain ⟨its, _, pl, _⟩ := I.list hq
      refine ⟨pl.isList.typeIs, fun a e => ?_⟩
      cases e
      obtain ⟨o, n, e, c, hd, _⟩ := pl
      exact ⟨o, e, hd⟩
    · refine ⟨⟨o, I.kIn p o hk, hc⟩, fun a e => ?_⟩
      cases e
      exact ⟨o, I.kIn _ o hk, hd⟩
    · have z : ∃ o, s.heap.get? p = some o ∧ o.ExactDict := by
        rcases hk with ⟨kvs, hk⟩ | ⟨kvs, hk⟩
        · obtain ⟨_, _, _, _, o, _, _, e, ex, _⟩ := I.hok p _ hk
          exact ⟨o, e, ex⟩
        · obtain ⟨_, _, _, _, o, _, _, e, ex, _⟩ := I.hok p _ hk
          exact ⟨o, e, ex⟩
      obtain ⟨o, e, ex⟩ := z
      refine ⟨⟨o, e, ex.1⟩, fun a e2 => ?_⟩
      cases e2
      exact ⟨o, e, ex.2.1⟩
    · obtain ⟨o, _, _, _, e, ex, _⟩ := I.hok p _ hk
      refine ⟨⟨o, e, ex.1⟩, fun a e2 => ?_⟩
      cases e2
      exact ⟨o, e, ex.2.1⟩
  | _ => exact False.elim ty
def tBM (K : PySem.W.Frag) (T : String) (r : V → List V → Hp → VK → Prop) (to : TE) (t : TA) : TE := fun σ H Q => to σ H fun x H1 => tyV K T x H1 ∧ t σ H1 fun xs H2 => r x xs H2 Q
variable {o e : Expr} {es : List Expr} {to : TE} {t : TA} {name : Str} {apos cpos : Pos} {T id : String} {r : V → List V → Hp → VK → Prop}
theorem pe_bm (pa : PlainAttrs T) (slot : Slot T name id) (hty : typeOf (.builtin id) = pure (.type "method_descriptor")) (hm : MtR X id r) (ho : PE X o to) (ha : PA X (e :: es) t)
    (hbase : attributeBase o name X.env (eval o X.env) = eval o X.env := by rfl)
    (hfew : ((backTo cpos (starEach (e :: es) X.env)).all (fun x => !x.1) && (backToKw cpos (keywordEach [] X.env)).all (fun x => x.1.isSome)
      && decide ((e :: es).length + ([] : List Keyword).length + (if ([] : List Keyword).isEmpty then 0 else 1) < 30)) = true := by rfl)
    (hline : (apos.endLine == cpos.line) = true := by rfl) (hs : starEach (e :: es) X.env = (false, eval e X.env) :: starEach es X.env := by rfl) (hplain : (backTo cpos (starEach es X.env)).any (·.1) = false := by rfl) :
    PE X (.Call (.Attribute o name apos) (e :: es) [] cpos) (tBM X.K T r to t) := by
  intro pins s σ H Q I h
  refine wpAny_Call_method_late hbase hfew hline rfl (thn (ho pins s σ H _ I h) fun v s1 ⟨x, H1, I1, r1, ty, q1⟩ => ?_)
  obtain ⟨h1, h2⟩ := tyV_is I1 r1 ty
  refine ⟨T, id, pa, slot, hty, h1, h2, ?_⟩
  have hA := ha cpos pins s1 σ H1 _ I1 q1
  rw [hs] at hA ⊢
  refine Calls.callWith_builtin (by show (false || (backTo cpos (starEach es X.env)).any (·.1)) = false; rw [hplain] <;> rfl) (Calls.evalArgs_plain ?_)
  exact thn hA fun us s2 ⟨vs, H2, I2, r2, q2⟩ => hm pins s2 σ H2 x vs v us Q I2 r1 r2 q2
/- xs.append(e), list.index on a module's tuple .. are MtR facts of 06m -/
end
end L2

namespace L2
open PySem PySem.Spec PyProof.Rows

def MtM (X : Cx) (id : String) (r : V → List V → Hp → VK → Prop) : Prop :=
  ∀ (pins : List (Addr × Obj)) (s : Shared) (σ : St) (H : Hp) (x : V) (xs : List V) (v : Value) (us : List Value) (Q : VK), Inv X pins σ H s → RelV x v → Vals xs us → r x xs H Q →
    wpAny (model X.prog X.w) X.A (call (.builtin id) (v :: us)) (EP X pins σ Q) X.xe s

/-! ### lists of values -/
theorem Vals.one {x : V} {us : List Value} (h : Vals [x] us) : ∃ u, us = [u] ∧ RelV x u := by
  cases h with
  | cons r t => cases t; exact ⟨_, rfl, r⟩
theorem Vals.rep {xs : List V} {us : List Value} (h : Vals xs us) : ∀ k : Nat, Vals (List.replicate k xs).flatten (List.replicate k us).flatten
  | 0 => .nil
  | k + 1 => by
    rw [List.replicate_succ, List.replicate_succ, List.flatten_cons, List.flatten_cons]
    exact Vals.append h (Vals.rep h k)
theorem foldl_rep (its : List Value) : ∀ (k : Nat) (acc : List Value),
    List.foldl (fun x1 x2 => x1 ++ x2) acc.toArray (List.replicate k its.toArray) = (acc ++ (List.replicate k its).flatten).toArray
  | 0, acc => by simp
  | k + 1, acc => by
    have e : acc.toArray ++ its.toArray = (acc ++ its).toArray := by simp
    have e2 : (acc ++ its) ++ (List.replicate k its).flatten = acc ++ (List.replicate (k + 1) its).flatten := by
      rw [List.replicate_succ, List.flatten_cons, List.append_assoc]
    rw [← e2, ← foldl_rep its k (acc ++ its), ← e, List.replicate_succ, List.foldl_cons]

section
variable {X : Cx} {pins : List (Addr × Obj)} {σ : St} {H : Hp} {s : Shared} {l b : Addr} {xs ys zs : List V}

/-! ### the two steps: a tracked list is rewritten, a new list is laid -/
theorem Inv.lset {its its' : List Value} {n : Nat} {f : Array Value → Array Value} {t' : Nat} (I : Inv X pins σ H s) (hH : H l = some (.lst xs))
    (e : s.heap.get? l = some { cls := .type "list", data := .seq its.toArray n }) (hf : f its.toArray = its'.toArray) (hv : Vals ys its') (hz : ys.length ≤ sizeLine) :
    Inv X pins σ (upd H l (.lst ys)) { s with heap := s.heap.update l (Obj.mapSeq f), toks := t' } := by
  have q := PySem.IsL.update e f
  rw [hf] at q
  refine I.write (x := l) (e := l) (by rw [hH]; exact trivial) (.inl rfl) (fun b' u hb hu => (Heap.get?_update_other s.heap (Obj.mapSeq f) (Ne.symm hb)).trans hu) ⟨_, q⟩ ?_
  exact ⟨hz, its', _, hv, q⟩
theorem Inv.lnew {its : List Value} {t' : Nat} (I : Inv X pins σ H s) (hv : Vals ys its) (hz : ys.length ≤ sizeLine) :
    Inv X pins σ (upd H s.heap.objs.size (.lst ys)) { s with heap := s.heap.push { cls := .type "list", data := .seq its.toArray }, toks := t' } :=
  I.laid (fun _ _ q => Heap.get?_push_of_some _ q) (Nat.le_refl _) ⟨hz, its, 0, hv, Heap.get?_push_size _ rfl⟩
theorem Inv.fresh (I : Inv X pins σ H s) : H s.heap.objs.size = none := I.hok.fresh (Nat.le_refl _)
theorem Inv.lstM (I : Inv X pins σ H s) (hH : H l = some (.lst xs)) : xs.length ≤ sizeLine ∧ ∃ (its : List Value) (n : Nat), Vals xs its ∧ xs.length = its.length ∧ s.heap.get? l = some { cls := .type "list", data := .seq its.toArray n } := by
  obtain ⟨z, its, n, r, e⟩ := I.hok l _ hH
  exact ⟨z, its, n, r, r.length, e⟩

theorem notLongL {n : Nat} (h : n ≤ sizeLine) : Builtin.List.listTooLong n = false := by
  unfold Builtin.List.listTooLong
  exact decide_eq_false (by omega)
end

section
variable {X : Cx}

/-! ### methods -/
def rAppend : V → List V → Hp → VK → Prop := fun x vs H Q => ∃ l xs y, x = .ref l ∧ vs = [y] ∧ H l = some (.lst xs) ∧ xs.length < sizeLine ∧ Q .non (upd H l (.lst (xs ++ [y])))
theorem mt_append : MtM X "list.append" rAppend := by
  intro pins s σ H x vs v us Q I rx rv h
  obtain ⟨l, xs, y, rfl, rfl, hH, hz, q⟩ := h
  cases rx
  obtain ⟨u, rfl, ru⟩ := rv.one
  obtain ⟨z, its, n, r, hl, e⟩ := I.lstM hH
  refine call_meets F.slot_list_append ⟨_, e, rfl⟩ F.entry_list_append (F.args_list_append_2 _ _) (PySem.list_append l its.toArray n u (by rw [List.size_toArray]; omega)) ⟨e, ?_⟩
  refine ⟨.non, _, I.lset (its' := its ++ [u]) hH e (by simp) (r.append (.cons ru .nil)) ?_, rfl, q⟩
  rw [List.length_append, List.length_singleton]
  omega

def rExtend : V → List V → Hp → VK → Prop := fun x vs H Q => ∃ l b xs zs, x = .ref l ∧ vs = [.ref b] ∧ H l = some (.lst xs) ∧ H b = some (.lst zs) ∧ xs.length + zs.length ≤ sizeLine ∧ Q .non (upd H l (.lst (xs ++ zs)))
theorem mt_extend : MtM X "list.extend" rExtend := by
  intro pins s σ H x vs v us Q I rx rv h
  obtain ⟨l, b, xs, zs, rfl, rfl, hH, hB, hz, q⟩ := h
  cases rx
  obtain ⟨u, rfl, ru⟩ := rv.one
  cases ru
  obtain ⟨z, its, n, r, hl, e⟩ := I.lstM hH
  obtain ⟨z2, its2, n2, r2, hl2, e2⟩ := I.lstM hB
  have hsz : its.toArray.size + its2.toArray.size ≤ sizeLine := by rw [List.size_toArray, List.size_toArray]; omega
  have hlong : ¬ (!its.toArray.isEmpty && Builtin.List.listTooLong (its.toArray.size + its2.toArray.size)) = true := by
    rw [notLongL hsz, Bool.and_false]
    exact Bool.false_ne_true
  refine call_meets F.slot_list_extend ⟨_, e, rfl⟩ F.entry_list_extend (F.args_list_extend_2 _ _)
    (AutoSeq1.list_extend_list_list_0 l its.toArray n b its2.toArray n2 hlong (by rw [List.size_toArray]; omega) (by omega)) ⟨e, e2, ?_⟩
  refine ⟨.non, _, I.lset (its' := its ++ its2) hH e (by simp) (r.append r2) ?_, rfl, q⟩
  rw [List.length_append]
  omega

/-! ### list + list, list += list, list * int -/
def rCat : R2 := fun x y H Q => ∃ l b xs zs, x = .ref l ∧ y = .ref b ∧ H l = some (.lst xs) ∧ H b = some (.lst zs) ∧ xs.length + zs.length ≤ sizeLine ∧ ∀ p, H p = none → Q (.ref p) (upd H p (.lst (xs ++ zs)))
theorem op_cat : OpR X (binaryOp .Add) rCat := by
  intro pins s σ H x y v u Q I rx ry h
  obtain ⟨l, b, xs, zs, rfl, rfl, hH, hB, hz, q⟩ := h
  cases rx
  cases ry
  obtain ⟨z, its, n, r, hl, e⟩ := I.lstM hH
  obtain ⟨z2, its2, n2, r2, hl2, e2⟩ := I.lstM hB
  refine PySem.P.add_list e e2 ?_ (by rw [List.size_toArray, List.size_toArray]; omega)
  have ea : its.toArray ++ its2.toArray = (its ++ its2).toArray := by simp
  rw [ea]
  exact ⟨.ref _, _, I.lnew (t' := s.toks) (r.append r2) (by rw [List.length_append]; omega), rfl, q _ I.fresh⟩
/-- a list times an int (a negative one is nothing) -/
def rRep : R2 := fun x y H Q => ∃ l k xs, x = .ref l ∧ y = .int k ∧ H l = some (.lst xs) ∧ -(2 ^ 63) ≤ k ∧ k < 2 ^ 63 ∧ xs.length * k.toNat ≤ sizeLine ∧
  ∀ p, H p = none → Q (.ref p) (upd H p (.lst (List.replicate k.toNat xs).flatten))
theorem len_rep {α : Type} (xs : List α) (k : Nat) : (List.replicate k xs).flatten.length = k * xs.length := by
  induction k with
  | zero => simp
  | succ k ih => rw [List.replicate_succ, List.flatten_cons, List.length_append, ih, Nat.succ_mul, Nat.add_comm]
theorem op_rep : OpR X (binaryOp .Mult) rRep := by
  intro pins s σ H x y v u Q I rx ry h
  obtain ⟨l, k, xs, rfl, rfl, hH, h1, h2, hz, q⟩ := h
  cases rx
  obtain ⟨t, rfl⟩ := ry
  obtain ⟨z, its, n, r, hl, e⟩ := I.lstM hH
  have hlen : its.toArray.size * k.toNat ≤ sizeLine := by rw [List.size_toArray, ← hl]; exact hz
  have hcap : ¬ its.toArray.size * k.toNat > (2 ^ 63 - 1) / 8 := by
    have : (sizeLine : Nat) ≤ (2 ^ 63 - 1) / 8 := by decide
    omega
  have hfit : ¬ (!Builtin.List.listFitsIndex k) = true := by
    rw [fitsIndex_both h1 h2]
    exact Bool.false_ne_true
  have hlong : ¬ Builtin.List.listTooLong (its.toArray.size * k.toNat) = true := by
    rw [notLongL hlen]
    exact Bool.false_ne_true
  have hnew : List.foldl (fun x1 x2 => x1 ++ x2) #[] (List.replicate (if its.toArray.isEmpty = true then 0 else k.toNat) its.toArray) = (List.replicate k.toNat its).flatten.toArray := by
    have f0 : ∀ m : Nat, List.foldl (fun x1 x2 => x1 ++ x2) #[] (List.replicate m its.toArray) = (List.replicate m its).flatten.toArray := fun m => by
      have := foldl_rep its m []
      rw [List.nil_append] at this
      exact this
    rw [f0]
    cases its with
    | nil => simp
    | cons a r' => rw [if_neg (by simp)]
  refine wpAny_binaryOp_repeat_ref (T := "list") (U := "int") (by decide) ⟨_, e, rfl⟩ (fun s' => typeIs_int s' k t) noFill_list_mul F.fills_int_mul F.slot_int_rmul repeat_list F.slot_int_index.lookup
    (call_meets F.slot_int_rmul (typeIs_int s k t) F.entry_int_rmul (F.args_int_rmul_2 _ _) (int___rmul___int_list k t l its.toArray n)
      ⟨e, rfl, ⟨_, e, rfl⟩, call_meets F.slot_list_mul ⟨_, e, rfl⟩ F.entry_list_mul (F.args_list_mul_2 _ _) (AutoListH.list___mul___list_int_3 l its.toArray n k t hfit hcap hlong) ⟨e, ?_⟩⟩)
  rw [hnew]
  exact ⟨.ref _, _, I.lnew (t' := s.toks) (r.rep k.toNat) (by rw [len_rep, Nat.mul_comm]; exact hz), rfl, q _ I.fresh⟩

/-! ### del xs[i] -/
end

/-! ### xs[a:b] = ys -/
section
variable {prog : Program} {w : World} {A : Around} {E : Value → Shared → Prop} {s : Shared}
end

section
variable {X : Cx}
end
end L2

namespace L2
open PySem PySem.Spec PyProof.Rows

/-! ### lists of pairs as tables -/
section
variable {κ : Type} [DecidableEq κ]
def valV (kvs : List (κ × V)) (k : κ) : Option V := (kvs.find? fun kv => decide (kv.1 = k)).map (·.2)
/-- in its place, or at the end -/
def putK (kvs : List (κ × V)) (k : κ) (v : V) : List (κ × V) :=
  if (kvs.any fun kv => decide (kv.1 = k)) = true then kvs.map (fun kv => if kv.1 = k then (kv.1, v) else kv) else kvs ++ [(k, v)]
theorem valV_pos {p : κ × V} {r : List (κ × V)} {k : κ} (e : p.1 = k) : valV (p :: r) k = some p.2 := by simp [valV, List.find?_cons, e]
theorem valV_neg {p : κ × V} {r : List (κ × V)} {k : κ} (e : ¬ p.1 = k) : valV (p :: r) k = valV r k := by simp [valV, List.find?_cons, e]
theorem valV_any (k : κ) : ∀ kvs : List (κ × V), (kvs.any fun kv => decide (kv.1 = k)) = (valV kvs k).isSome
  | [] => rfl
  | p :: r => by
    rw [List.any_cons]
    by_cases e : p.1 = k
    · simp only [valV_pos e, decide_eq_true e, Bool.true_or, Option.isSome_some]
    · rw [valV_neg e, decide_eq_false e, Bool.false_or]; exact valV_any k r
theorem valV_map (k j : κ) (y : V) : ∀ kvs : List (κ × V), valV (kvs.map fun kv => if kv.1 = k then (kv.1, y) else kv) j = (valV kvs j).map fun x => if j = k then y else x
  | [] => rfl
  | p :: r => by
    have ih := valV_map k j y r
    rw [List.map_cons]
    by_cases h : p.1 = k
    · rw [if_pos h]
      by_cases e : p.1 = j
      · rw [valV_pos (p := (p.1, y)) e, valV_pos e, Option.map_some, if_pos (e.symm.trans h)]
      · rw [valV_neg (p := (p.1, y)) e, valV_neg e, ih]
    · rw [if_neg h]
      by_cases e : p.1 = j
      · rw [valV_pos (p := p) e, valV_pos e, Option.map_some, if_neg (fun z => h (e.trans z))]
      · rw [valV_neg (p := p) e, valV_neg e, ih]
theorem valV_snoc (k j : κ) (y : V) : ∀ kvs : List (κ × V), valV kvs k = none → valV (kvs ++ [(k, y)]) j = if j = k then some y else valV kvs j
  | [], _ => by
    by_cases e : k = j
    · rw [if_pos e.symm]; exact valV_pos (p := (k, y)) e
    · rw [if_neg (fun z => e z.symm)]; exact valV_neg (p := (k, y)) e
  | p :: r, hn => by
    rw [List.cons_append]
    have hk : ¬ p.1 = k := fun z => by rw [valV_pos z] at hn; cases hn
    rw [valV_neg hk] at hn
    have ih := valV_snoc k j y r hn
    by_cases e : p.1 = j
    · rw [valV_pos e, valV_pos e, if_neg (fun z => hk (e.trans z))]
    · rw [valV_neg e, valV_neg e, ih]
theorem valV_put (kvs : List (κ × V)) (k j : κ) (y : V) : valV (putK kvs k y) j = if j = k then some y else valV kvs j := by
  unfold putK
  by_cases a : (kvs.any fun kv => decide (kv.1 = k)) = true
  · rw [if_pos a, valV_map]
    rw [valV_any] at a
    by_cases e : j = k
    · obtain ⟨x, hx⟩ := Option.isSome_iff_exists.mp a
      rw [if_pos e, e, hx, Option.map_some, if_pos rfl]
    · rw [if_neg e]
      cases valV kvs j with
      | none => rfl
      | some x => rw [Option.map_some, if_neg e]
  · rw [if_neg a]
    refine valV_snoc k j y kvs ?_
    rw [valV_any] at a
    cases q : valV kvs k with
    | none => rfl
    | some x => rw [q] at a; exact (a rfl).elim
theorem length_putK (kvs : List (κ × V)) (k : κ) (v : V) : (putK kvs k v).length ≤ kvs.length + 1 := by
  unfold putK
  split
  · rw [List.length_map]; omega
  · rw [List.length_append, List.length_cons, List.length_nil]; omega
theorem RelO.isSome_eq {o : Option V} {u : Option Value} (r : RelO o u) : o.isSome = u.isSome := by
  cases o with
  | none => cases u with
    | none => rfl
    | some _ => exact (show False from r).elim
  | some _ => cases u with
    | none => exact (show False from r).elim
    | some _ => rfl
theorem RelO.getD {o : Option V} {u : Option Value} {d : V} {d' : Value} (r : RelO o u) (rd : RelV d d') : RelV (o.getD d) (u.getD d') := by
  cases o with
  | none => cases u with
    | none => exact rd
    | some _ => exact (show False from r).elim
  | some _ => cases u with
    | none => exact (show False from r).elim
    | some _ => exact r

/-- raw tables of the same keys -/
theorem KV.val {kvs : List (κ × V)} {vs : List (κ × Value)} (r : KV kvs vs) (k : κ) : RelO (valV kvs k) (valueAt vs k) := by
  unfold KV at r
  induction r with
  | nil => exact True.intro
  | @cons p q ps qs h t ih =>
    obtain ⟨h1, h2⟩ := h
    by_cases e : p.1 = k
    · have e' : q.1 = k := h1.symm.trans e
      have b : valueAt (q :: qs) k = some q.2 := by simp [valueAt, List.find?_cons, e']
      rw [valV_pos e, b]; exact h2
    · have e' : ¬ q.1 = k := fun z => e (h1.trans z)
      have b : valueAt (q :: qs) k = valueAt qs k := by simp [valueAt, List.find?_cons, e']
      rw [valV_neg e, b]; exact ih
theorem KV.any {kvs : List (κ × V)} {vs : List (κ × Value)} (r : KV kvs vs) (k : κ) : (kvs.any fun kv => decide (kv.1 = k)) = vs.any fun kv => decide (kv.1 = k) := by
  unfold KV at r
  induction r with
  | nil => rfl
  | cons h t ih => rw [List.any_cons, List.any_cons, ih, h.1]
theorem KV.repl {kvs : List (κ × V)} {vs : List (κ × Value)} (r : KV kvs vs) (k : κ) {y : V} {u : Value} (ry : RelV y u) :
    KV (kvs.map fun kv => if kv.1 = k then (kv.1, y) else kv) (vs.map fun kv => if kv.1 = k then (kv.1, u) else kv) := by
  unfold KV at r ⊢
  induction r with
  | nil => exact .nil
  | @cons p q ps qs h t ih =>
    rw [List.map_cons, List.map_cons]
    refine .cons ?_ ih
    obtain ⟨h1, h2⟩ := h
    by_cases e : p.1 = k
    · rw [if_pos e, if_pos (h1.symm.trans e)]; exact ⟨h1, ry⟩
    · rw [if_neg e, if_neg (fun z => e (h1.trans z))]; exact ⟨h1, h2⟩
theorem KV.put {kvs : List (κ × V)} {vs : List (κ × Value)} (r : KV kvs vs) (k : κ) {y : V} {u : Value} (ry : RelV y u) : KV (putK kvs k y) (stored vs k u) := by
  unfold putK stored
  rw [r.any k]
  by_cases e : (vs.any fun kv => decide (kv.1 = k)) = true
  · rw [if_pos e, if_pos e]; exact r.repl k ry
  · rw [if_neg e, if_neg e]; exact Paired.snoc r ⟨rfl, ry⟩
theorem KV.length {kvs : List (κ × V)} {vs : List (κ × Value)} (r : KV kvs vs) : kvs.length = vs.length := Paired.length r
end


/-! ### a tracked dict, its keys ints and texts or tuples of these -/
theorem kV_is {P : Program} {w : World} {k : Key} {u : Value} (r : RelV (kV k) u) : (mixKind P w).is k u = true := by
  cases k with
  | inl i => obtain ⟨t, e⟩ := (show ∃ t, u = Value.int i t from r); subst e; exact mixKind_int P w i t
  | inr x => obtain ⟨t, e⟩ := (show ∃ t, u = Value.str x t from r); subst e; exact mixKind_str P w x t
theorem items_are {P : Program} {w : World} : ∀ {ks : List Key} {us : List Value}, Vals (ks.map kV) us → ItemsAre (mixKind P w) ks us
  | [], _, r => by rw [List.map_nil] at r; cases r; exact .nil
  | k :: ks, _, r => by
    rw [List.map_cons] at r
    cases r with
    | cons h t => exact .cons (kV_is h) (items_are t)

/-- raw entries of a dict with tuple keys -/
abbrev KT (H : Hp) : List (List Key × V) → List (List Key × Addr × Value) → Prop := Paired fun p q => p.1 = q.1 ∧ H q.2.1 = some (.tup (p.1.map kV)) ∧ RelV p.2 q.2.2
theorem KT.val {H : Hp} {kvs : List (List Key × V)} {xs : List (List Key × Addr × Value)} (r : KT H kvs xs) (k : List Key) : RelO (valV kvs k) ((atKey xs k).map (·.2)) := by
  induction r with
  | nil => exact True.intro
  | @cons p q ps qs h t ih =>
    obtain ⟨h1, _, h2⟩ := h
    by_cases e : p.1 = k
    · have e' : q.1 = k := h1.symm.trans e
      have b : atKey (q :: qs) k = some q.2 := by simp [atKey, List.find?_cons, e']
      rw [valV_pos e, b]; exact h2
    · have e' : ¬ q.1 = k := fun z => e (h1.trans z)
      have b : atKey (q :: qs) k = atKey qs k := by simp [atKey, List.find?_cons, e']
      rw [valV_neg e, b]; exact ih
theorem KT.repl {H : Hp} {kvs : List (List Key × V)} {xs : List (List Key × Addr × Value)} (r : KT H kvs xs) (k : List Key) {y : V} {u : Value} (ry : RelV y u) :
    KT H (kvs.map fun kv => if kv.1 = k then (kv.1, y) else kv) (xs.map (putAt k u)) := by
  induction r with
  | nil => exact .nil
  | @cons p q ps qs h t ih =>
    rw [List.map_cons, List.map_cons]
    refine .cons ?_ ih
    obtain ⟨h1, h2, h3⟩ := h
    unfold putAt
    by_cases e : p.1 = k
    · rw [if_pos e, if_pos (h1.symm.trans e)]; exact ⟨h1, h2, ry⟩
    · rw [if_neg e, if_neg (fun z => e (h1.trans z))]; exact ⟨h1, h2, h3⟩
theorem KT.put {H : Hp} {kvs : List (List Key × V)} {xs : List (List Key × Addr × Value)} (r : KT H kvs xs) (k : List Key) {b : Addr} {y : V} {u : Value} (hb : H b = some (.tup (k.map kV))) (ry : RelV y u) :
    KT H (putK kvs k y) (storedH xs k b u) := by
  have e : (kvs.any fun kv => decide (kv.1 = k)) = (atKey xs k).isSome := by
    rw [valV_any, (r.val k).isSome_eq, Option.isSome_map]
  unfold putK storedH
  rw [e]
  by_cases q : (atKey xs k).isSome = true
  · rw [if_pos q, if_pos q]; exact r.repl k ry
  · rw [if_neg q, if_neg q]; exact Paired.snoc r ⟨rfl, hb, ry⟩
theorem KT.keeps {H H' : Hp} {kvs : List (List Key × V)} {xs : List (List Key × Addr × Value)} (r : KT H kvs xs) (ht : ∀ b ys, H b = some (.tup ys) → H' b = some (.tup ys)) : KT H' kvs xs :=
  Paired.mapP r fun _ _ z => ⟨z.1, ht _ _ z.2.1, z.2.2⟩

section
variable {P : Program} {w : World} {H : Hp} {h : Heap} {a : Addr}
theorem rd_of {u : HO} (ok : HOk P w H h) (e : Rd H a u) : ObjOk P w H h a u := e.ok ok
theorem dk_rd {kvs : List (Key × V)} (ok : HOk P w H h) (e : Rd H a (.dK kvs)) : kvs.length ≤ sizeLine ∧ (a == sysModules) = false ∧ ∃ vs, KV kvs vs ∧ h.DictOf (mixKind P w) a vs :=
  show ObjOk P w H h a (.dK kvs) from rd_of ok e
theorem dk_of {kvs : List (Key × V)} (ok : HOk P w H h) (e : H a = some (.dK kvs)) : kvs.length ≤ sizeLine ∧ (a == sysModules) = false ∧ ∃ vs, KV kvs vs ∧ h.DictOf (mixKind P w) a vs := dk_rd ok (.inl e)
/-- a tracked tuple of ints and texts is a key -/
theorem key_of {ks : List Key} (ok : HOk P w H h) (e : H a = some (.tup (ks.map kV))) : (tupleKind (mixKind P w)).is h ks a := by
  obtain ⟨_, its, r, o, h1, h2, n, h3⟩ := (show ObjOk P w H h a (.tup (ks.map kV)) from ok a _ e)
  exact ⟨o, its.toArray, n, h1, h2, h3, by simpa using items_are r⟩
theorem dt_rd {kvs : List (List Key × V)} (ok : HOk P w H h) (e : Rd H a (.dT kvs)) : kvs.length ≤ sizeLine ∧ (a == sysModules) = false ∧
    ∃ xs, KT H kvs xs ∧ h.DictOfH (tupleKind (mixKind P w)) a xs := by
  obtain ⟨z, y, xs, r, o, es, ep, h1, h2, h3, h4, h5⟩ := (show ObjOk P w H h a (.dT kvs) from rd_of ok e)
  refine ⟨z, y, xs, r, o, es, ep, h1, h2, h3, h4, fun x hx => ?_, h5⟩
  have all : ∀ {l : List (List Key × V)} {m : List (List Key × Addr × Value)}, KT H l m → ∀ x ∈ m, (tupleKind (mixKind P w)).is h x.1 x.2.1 := by
    intro l m q
    induction q with
    | nil => intro x hx; exact nomatch hx
    | @cons p q ps qs hq t ih =>
      intro x hx
      rcases List.mem_cons.mp hx with e | hx
      · subst e
        exact key_of ok (by rw [← hq.1]; exact hq.2.1)
      · exact ih x hx
  exact all r x hx
theorem dt_of {kvs : List (List Key × V)} (ok : HOk P w H h) (e : H a = some (.dT kvs)) : kvs.length ≤ sizeLine ∧ (a == sysModules) = false ∧
    ∃ xs, KT H kvs xs ∧ h.DictOfH (tupleKind (mixKind P w)) a xs := dt_rd ok (.inl e)
end

/-- what the dict at a holds at the key y -/
def DGet (H : Hp) (a : Addr) (y : V) (r : Option V) : Prop :=
  (∃ kvs k, Rd H a (.dK kvs) ∧ y = kV k ∧ r = valV kvs k) ∨ ∃ kvs k b, Rd H a (.dT kvs) ∧ y = .ref b ∧ H b = some (.tup (k.map kV)) ∧ r = valV kvs k
/-- the heap behind a[y] = v -/
def DPut (H : Hp) (a : Addr) (y v : V) (H' : Hp) : Prop :=
  (∃ kvs k, H a = some (.dK kvs) ∧ y = kV k ∧ kvs.length < sizeLine ∧ H' = upd H a (.dK (putK kvs k v))) ∨
  ∃ kvs k b, H a = some (.dT kvs) ∧ y = .ref b ∧ H b = some (.tup (k.map kV)) ∧ kvs.length < sizeLine ∧ H' = upd H a (.dT (putK kvs k v))
theorem DGet.k {H : Hp} {a : Addr} {kvs : List (Key × V)} {k : Key} (e : H a = some (.dK kvs)) : DGet H a (kV k) (valV kvs k) := .inl ⟨kvs, k, .inl e, rfl, rfl⟩
theorem DGet.t {H : Hp} {a b : Addr} {kvs : List (List Key × V)} {k : List Key} (e : H a = some (.dT kvs)) (eb : H b = some (.tup (k.map kV))) : DGet H a (.ref b) (valV kvs k) := .inr ⟨kvs, k, b, .inl e, rfl, eb, rfl⟩
theorem DPut.k {H : Hp} {a : Addr} {kvs : List (Key × V)} {k : Key} {v : V} (e : H a = some (.dK kvs)) (hl : kvs.length < sizeLine) : DPut H a (kV k) v (upd H a (.dK (putK kvs k v))) := .inl ⟨kvs, k, e, rfl, hl, rfl⟩
theorem DPut.t {H : Hp} {a b : Addr} {kvs : List (List Key × V)} {k : List Key} {v : V} (e : H a = some (.dT kvs)) (eb : H b = some (.tup (k.map kV))) (hl : kvs.length < sizeLine) :
    DPut H a (.ref b) v (upd H a (.dT (putK kvs k v))) := .inr ⟨kvs, k, b, e, rfl, eb, hl, rfl⟩


section
variable {X : Cx} {pins : List (Addr × Obj)} {σ : St} {H : Hp} {s : Shared} {a : Addr} {y v : V} {u r : Value} {o : Option V} {A : Around} {E : Value → Shared → Prop}

theorem Inv.big (I : Inv X pins σ H s) : sysModules < s.heap.objs.size := by
  have h : mainGlobals < s.heap.objs.size := (I.mod.glob.keeps I.bk).lt
  exact Nat.lt_trans (by decide) h

/-- d[y], there -/
theorem d_getItem {Q : Value → Shared → Prop} (hu : A.units + 1 < cLine) (I : Inv X pins σ H s) (g : DGet H a y (some v)) (ry : RelV y u) (h : ∀ w' s', Inv X pins σ H s' → RelV v w' → Q w' s') :
    wpAny (model X.prog X.w) A (getItem (.ref a) u) Q E s := by
  rcases g with ⟨kvs, k, e, ey, l⟩ | ⟨kvs, k, b, e, ey, eb, l⟩
  · subst ey
    obtain ⟨z, hd, vs, rel, dd⟩ := dk_rd I.hok e
    obtain ⟨w', hw, rw'⟩ := RelO.some_of (v := v) (o := valueAt vs k) (by rw [l]; exact rel.val k)
    exact wpAny_getItem_of (kV_is ry) dd.mapOf hw (h w' _ (I.tok _) rw')
  · subst ey
    cases (show u = Value.ref b from ry)
    obtain ⟨z, hd, xs, rel, dd⟩ := dt_rd I.hok e
    obtain ⟨w', hw, rw'⟩ := RelO.some_of (v := v) (o := (atKey xs k).map (·.2)) (by rw [l]; exact rel.val k)
    obtain ⟨p, hp, hp2⟩ := Option.map_eq_some_iff.mp hw
    refine wpAny_getItem_heap (tupleKind_room_in1 hu) (key_of I.hok eb) dd hp ?_
    rw [hp2]
    exact h w' _ (I.tok _) rw'
theorem d_notIn {Q : Value → Shared → Prop} (hu : A.units + 1 < cLine) (I : Inv X pins σ H s) (g : DGet H a y o) (ry : RelV y u) (h : ∀ s', Inv X pins σ H s' → Q (.bool (!o.isSome)) s') :
    wpAny (model X.prog X.w) A (compareOp .NotIn u (.ref a)) Q E s := by
  rcases g with ⟨kvs, k, e, ey, l⟩ | ⟨kvs, k, b, e, ey, eb, l⟩
  · subst ey
    obtain ⟨z, hd, vs, rel, dd⟩ := dk_rd I.hok e
    refine wpAny_notIn_of (kV_is ry) hd dd.mapOf ?_
    rw [← (rel.val k).isSome_eq, ← l]
    exact h _ (I.tok _)
  · subst ey
    cases (show u = Value.ref b from ry)
    obtain ⟨z, hd, xs, rel, dd⟩ := dt_rd I.hok e
    refine wpAny_notIn_heap (tupleKind_room_in1 hu) (key_of I.hok eb) hd dd ?_
    have q := (rel.val k).isSome_eq
    rw [Option.isSome_map] at q
    rw [← q, ← l]
    exact h _ (I.tok _)
/-- a dict's object is replaced -/
theorem d_write {h' : Heap} {t' : Nat} {ob : HO} (I : Inv X pins σ H s) (mu : Mut (H a)) (hs : Heap.SameBut a s.heap h') (he : ∃ q, h'.get? a = some q) (new : ObjOk X.prog X.w (upd H a ob) h' a ob) :
    Inv X pins σ (upd H a ob) { s with heap := h', toks := t' } :=
  I.write (x := a) (e := a) mu (.inl rfl) (fun b q hb z => (hs.2 b hb).trans z) he new
theorem dk_new {P : Program} {w : World} {H' : Hp} {h' : Heap} {kvs : List (Key × V)} {vs : List (Key × Value)} (z : kvs.length ≤ sizeLine) (hd : (a == sysModules) = false) (rel : KV kvs vs) (dd : h'.DictOf (mixKind P w) a vs) :
    ObjOk P w H' h' a (.dK kvs) := ⟨z, hd, vs, rel, dd⟩
/-- d[y] = v -/
theorem d_setItem {H' : Hp} {Q : Unit → Shared → Prop} (hu : A.units + 1 < cLine) (I : Inv X pins σ H s) (g : DPut H a y v H') (ry : RelV y u) (rv : RelV v r) (h : ∀ s', Inv X pins σ H' s' → Q () s') :
    wpAny (model X.prog X.w) A (setItem (.ref a) u r) Q E s := by
  rcases g with ⟨kvs, k, e, ey, l, eH⟩ | ⟨kvs, k, b, e, ey, eb, l, eH⟩
  · subst ey eH
    obtain ⟨z, hd, vs, rel, dd⟩ := dk_of I.hok e
    have hz : vs.length ≤ sizeLine := by rw [← rel.length]; exact z
    have hl : (putK kvs k v).length ≤ sizeLine := by have := length_putK kvs k v; omega
    refine wpAny_setItem_pairs (hsz := hz) (kV_is ry) dd fun h' dd' hs => h _ ?_
    have he : ∃ q, h'.get? a = some q := let ⟨q, _, _, hq, _⟩ := dd'; ⟨q, hq⟩
    exact d_write I (by rw [e]; exact True.intro) hs he (dk_new hl hd (rel.put k rv) dd')
  · subst ey eH
    cases (show u = Value.ref b from ry)
    obtain ⟨z, hd, xs, rel, dd⟩ := dt_of I.hok e
    have hz : xs.length ≤ sizeLine := by rw [← Paired.length rel]; exact z
    have hl : (putK kvs k v).length ≤ sizeLine := by have := length_putK kvs k v; omega
    refine wpAny_setItem_heap (hsz := hz) (tupleKind_room_in1 hu) (key_of I.hok eb) dd fun h' dd' hs => h _ ?_
    obtain ⟨q, es, ep, hq, h2, h3, h4, _, h5⟩ := dd'
    refine d_write I (by rw [e]; exact True.intro) hs ⟨q, hq⟩ ⟨hl, hd, _, (rel.put k eb rv).keeps fun c ys ec => ?_, q, es, ep, hq, h2, h3, h4, h5⟩
    rw [upd_ne (ne_of ec e (fun z => nomatch z))]
    exact ec
end

section
variable {X : Cx} {pins : List (Addr × Obj)} {σ : St} {H : Hp} {s : Shared} {a : Addr} {kvs : List (Key × V)} {k : Key} {u : Value} {A : Around} {E : Value → Shared → Prop}
end


/-! ### readings and rules -/
/-- the element of a subscription, not a slice -/
def NoSl (i : Expr) : Prop := ∀ ov iv, subscripted i false ov iv = operate [ov, iv] (getItem ov iv)
theorem subD_of {prog : Program} {w : World} {A : Around} {E : Value → Shared → Prop} {s : Shared} {env : Env} {value slice : Expr} {pos : Pos} {T id : String} {Q : Value → Shared → Prop}
    (hl : typeLookup (.type T) "__getitem__" = pure (some (.builtin id))) (hs : NoSl slice)
    (h : wpAny (model prog w) A (eval value env) (fun o s₁ => wpAny (model prog w) A (eval slice env) (fun i s₂ => s₂.TypeIs o T ∧ wpAny (model prog w) A (getItem o i) Q E s₂) E s₁) E s) :
    wpAny (model prog w) A (eval (.Subscript value slice pos) env) Q E s := by
  refine Subscript_ (wpAny_mono h (fun o s₁ h₁ => wpAny_mono h₁ (fun i s₂ h₂ => ?_) fun _ _ x => x) fun _ _ x => x)
  obtain ⟨hT, h₂⟩ := h₂
  unfold subscriptTail
  refine wpAny_bind ?_
  rw [getitemInPython_of_ne hT.not_modules]
  refine wpAny_bind (wpAny_specialOf hT hl ?_)
  have fin : wpAny (model prog w) A (subscripted slice false o i) (fun r s₃ => wpAny (model prog w) A (letTemporaryGo value o r >>= fun _ => pure r) Q E s₃) E s₂ := by
    rw [hs o i]
    exact wpAny_operating (wpAny_mono h₂ (fun r s₃ h₃ => wpAny_bind (wpAny_letTemporaryGo (wpAny_pure h₃))) fun _ _ x => x)
  first
    | exact wpAny_pure (wpAny_bind fin)
    | exact wpAny_bind (wpAny_pure (wpAny_bind fin))
    | exact wpAny_bind fin

theorem dict_typeIs {X : Cx} {pins : List (Addr × Obj)} {σ : St} {H : Hp} {s : Shared} {a : Addr} {y : V} {o : Option V} (I : Inv X pins σ H s) (g : DGet H a y o) : s.TypeIs (.ref a) "dict" := by
  rcases g with ⟨kvs, k, e, _, _⟩ | ⟨kvs, k, b, e, _, _, _⟩
  · obtain ⟨_, _, vs, _, dd⟩ := dk_rd I.hok e
    exact dd.typeIs
  · obtain ⟨_, _, xs, _, dd⟩ := dt_rd I.hok e
    exact dd.typeIs
/-- d[y] -/
def tDGet (td ty : TE) : TE := fun σ H Q => td σ H fun x H1 => ty σ H1 fun y H2 => ∃ a v, x = .ref a ∧ DGet H2 a y (some v) ∧ Q v H2
def tDNotIn (ty td : TE) : TE := fun σ H Q => ty σ H fun y H1 => td σ H1 fun x H2 => ∃ a o, x = .ref a ∧ DGet H2 a y o ∧ Q (.bl (!o.isSome)) H2
/-- d[y] = v -/
def sDPut (td ty tv : TE) : TS := fun D σ H => tv σ H fun v H1 => td σ H1 fun x H2 => ty σ H2 fun y H3 => ∃ a H4, x = .ref a ∧ DPut H3 a y v H4 ∧ D.nx σ H4
section
variable {X : Cx} {o i e value : Expr} {pos pos' tpos : Pos} {td ty tv : TE}
theorem pe_dget (hu : X.A.units + 1 < cLine) (ho : PE X o td) (hi : PE X i ty) (hs : NoSl i) : PE X (.Subscript o i pos) (tDGet td ty) := by
  intro pins s σ H Q I h
  refine subD_of PySem.F.slot_dict_getitem.lookup hs (thn (ho pins s σ H _ I h) fun u s1 ⟨x, H1, I1, rx, q1⟩ => thn (hi pins s1 σ H1 _ I1 q1) fun iv s2 ⟨y, H2, I2, ry, a, v, ex, g, q2⟩ => ?_)
  subst ex
  obtain rfl : u = Value.ref a := rx
  exact ⟨dict_typeIs I2 g, d_getItem hu I2 g ry fun w' s3 I3 rw' => ⟨v, H2, I3, rw', q2⟩⟩
theorem pc_dnotin (hu : X.A.units + 1 < cLine) (hi : PE X i ty) (ho : PE X o td) : PC X .NotIn i o (tDNotIn ty td) := by
  intro pins s σ H Q I h
  refine thn (hi pins s σ H _ I h) fun iv s1 ⟨y, H1, I1, ry, q1⟩ => thn (ho pins s1 σ H1 _ I1 q1) fun u s2 ⟨x, H2, I2, rx, a, ov, ex, g, q2⟩ => ?_
  subst ex
  obtain rfl : u = Value.ref a := rx
  exact d_notIn hu I2 g ry fun s3 I3 => ⟨.bl (!ov.isSome), H2, I3, rfl, q2⟩
theorem ps_dput (hu : X.A.units + 1 < cLine) (ho : PE X o td) (hi : PE X i ty) (hv : PE X value tv) (hs : swapsWith value (some (.Subscript o i pos')) pos.line X.env = pure false) :
    PS X (.Assign [.Subscript o i pos'] value pos) (sDPut td ty tv) := by
  intro pins s σ H D I h
  refine wpAny_Assign_Subscript (thn (hv pins s σ H _ I h) fun r s1 ⟨v, H1, I1, rv, q1⟩ => thn (ho pins s1 σ H1 _ I1 q1) fun u s2 ⟨x, H2, I2, rx, q2⟩ => thn (hi pins s2 σ H2 _ I2 q2) fun iv s3 ⟨y, H3, I3, ry, a, H4, ex, g, q3⟩ => ?_) hs
  subst ex
  obtain rfl : u = Value.ref a := rx
  exact d_setItem hu I3 g ry rv fun s4 I4 => ⟨σ, H4, I4, q3⟩
end


/-! ### displays -/
theorem dk_empty {P : Program} {w : World} {H : Hp} (h : Heap) (hb : sysModules < h.objs.size) : ObjOk P w H (h.push { cls := .type "dict", data := .dict #[] }) h.objs.size (.dK []) :=
  ⟨Nat.zero_le _, beq_eq_false_iff_ne.mpr (Ne.symm (Nat.ne_of_lt hb)), [], .nil, Heap.DictOf.new h⟩
theorem dt_empty {P : Program} {w : World} {H : Hp} (h : Heap) (hb : sysModules < h.objs.size) : ObjOk P w H (h.push { cls := .type "dict", data := .dict #[] }) h.objs.size (.dT []) :=
  ⟨Nat.zero_le _, beq_eq_false_iff_ne.mpr (Ne.symm (Nat.ne_of_lt hb)), [], .nil, _, #[], 0, Heap.get?_push_size _ rfl, ⟨rfl, rfl, rfl⟩, rfl, rfl, List.nodup_nil⟩
/-- {}, to be a dict of the kind that is wanted -/
def tDNewK : TE := fun _ H Q => ∀ p, H p = none → Q (.ref p) (upd H p (.dK []))
def tDNewT : TE := fun _ H Q => ∀ p, H p = none → Q (.ref p) (upd H p (.dT []))
section
variable {X : Cx} {pos : Pos}
theorem pe_dnewK : PE X (.Dict [] [] pos) tDNewK := fun pins s σ H Q I h =>
  wpAny_Dict_empty ⟨.ref s.heap.objs.size, _, I.laid (a := s.heap.objs.size) (o := .dK []) (t' := s.toks) (fun _ _ q => Heap.get?_push_of_some _ q) (Nat.le_refl _) (dk_empty s.heap I.big), rfl, h _ (I.hok.fresh (Nat.le_refl _))⟩
theorem pe_dnewT : PE X (.Dict [] [] pos) tDNewT := fun pins s σ H Q I h =>
  wpAny_Dict_empty ⟨.ref s.heap.objs.size, _, I.laid (a := s.heap.objs.size) (o := .dT []) (t' := s.toks) (fun _ _ q => Heap.get?_push_of_some _ q) (Nat.le_refl _) (dt_empty s.heap I.big), rfl, h _ (I.hok.fresh (Nat.le_refl _))⟩
end

/-- the pairs of a display, from the left -/
def tPairs : List (TE × TE) → St → Hp → (List (V × V) → Hp → Prop) → Prop
  | [], _, H, Q => Q [] H
  | (tk, tv) :: r, σ, H, Q => tk σ H fun x H1 => tv σ H1 fun y H2 => tPairs r σ H2 fun ps H3 => Q ((x, y) :: ps) H3
abbrev VV : List (V × V) → List (Value × Value) → Prop := Paired fun p q => RelV p.1 q.1 ∧ RelV p.2 q.2
def PPs (X : Cx) (pos : Pos) (keys : List (Option Expr)) (values : List Expr) (trs : List (TE × TE)) : Prop :=
  ∀ (pins : List (Addr × Obj)) (s : Shared) (σ : St) (H : Hp) (Q : List (V × V) → Hp → Prop), Inv X pins σ H s → tPairs trs σ H Q →
    wpAny (model X.prog X.w) X.A (evalPairs (pairTrees keys values X.env pos)) (fun vs s' => ∃ ps H', Inv X pins σ H' s' ∧ VV ps vs ∧ Q ps H') X.xe s
theorem pps_nil {X : Cx} {pos : Pos} : PPs X pos [] [] [] := fun pins s σ H Q I h => pairTrees_nil_walk ⟨[], H, I, .nil, h⟩
theorem pps_cons {X : Cx} {pos : Pos} {k v : Expr} {ks : List (Option Expr)} {vs : List Expr} {tk tv : TE} {trs : List (TE × TE)} (hk : PE X k tk) (hv : PE X v tv) (hr : PPs X pos ks vs trs) :
    PPs X pos (some k :: ks) (v :: vs) ((tk, tv) :: trs) := fun pins s σ H Q I h =>
  pairTrees_cons_walk (thn (hk pins s σ H _ I h) fun u s1 ⟨x, H1, I1, rx, q1⟩ => thn (hv pins s1 σ H1 _ I1 q1) fun w2 s2 ⟨y, H2, I2, ry, q2⟩ =>
    thn (hr pins s2 σ H2 _ I2 q2) fun ws s3 ⟨ps, H3, I3, rel, q3⟩ => ⟨(x, y) :: ps, H3, I3, .cons ⟨rx, ry⟩ rel, q3⟩)

def mergeK (kvs more : List (Key × V)) : List (Key × V) := more.foldl (fun acc kv => putK acc kv.1 kv.2) kvs
theorem KV.merge : ∀ {more : List (Key × V)} {rs : List (Key × Value)} {kvs : List (Key × V)} {vs : List (Key × Value)}, KV more rs → KV kvs vs → KV (mergeK kvs more) (merged vs rs) := by
  intro more rs kvs vs r
  unfold KV at r
  induction r generalizing kvs vs with
  | nil => intro q; exact q
  | @cons p q ps qs h t ih =>
    intro r0
    have e : KV (putK kvs p.1 p.2) (stored vs q.1 q.2) := by
      have := r0.put p.1 h.2
      rw [← h.1]; exact this
    exact ih e
theorem length_mergeK : ∀ (more kvs : List (Key × V)), (mergeK kvs more).length ≤ kvs.length + more.length
  | [], kvs => by show kvs.length ≤ kvs.length + 0; omega
  | p :: r, kvs => by
    have h1 := length_mergeK r (putK kvs p.1 p.2)
    have h2 := length_putK kvs p.1 p.2
    show (mergeK (putK kvs p.1 p.2) r).length ≤ _
    rw [List.length_cons]; omega
theorem carries_of {P : Program} {w : World} : ∀ {kvs : List (Key × V)} {ws : List (Value × Value)}, VV (kvs.map fun kv => (kV kv.1, kv.2)) ws → ∃ rs, Carries (mixKind P w) ws rs ∧ KV kvs rs
  | [], _, r => by rw [List.map_nil] at r; cases r; exact ⟨[], True.intro, .nil⟩
  | p :: kvs, _, r => by
    rw [List.map_cons] at r
    cases r with
    | @cons a b as bs h t =>
      obtain ⟨rs, c, q⟩ := carries_of (P := P) (w := w) t
      obtain ⟨b1, b2⟩ := b
      exact ⟨(p.1, b2) :: rs, ⟨kV_is h.1, rfl, c⟩, .cons ⟨rfl, h.2⟩ q⟩
/-- {k: v, ..} with keys ints and texts; the new dict stands empty while the pairs are made -/
def tDisp (trs : List (TE × TE)) : TE := fun σ H Q => ∀ p, H p = none → tPairs trs σ (upd H p (.dK [])) fun ps H2 => H2 p = some (.dK []) ∧ ∃ kvs : List (Key × V), ps = kvs.map (fun kv => (kV kv.1, kv.2)) ∧ kvs.length ≤ 15 ∧ Q (.ref p) (upd H2 p (.dK (mergeK [] kvs)))
theorem pe_disp {X : Cx} {pos : Pos} {keys : List (Option Expr)} {values : List Expr} {trs : List (TE × TE)} (h : PPs X pos keys values trs) (hall : keys.all (·.isSome) = true) (hl : keys.length = values.length) (h0 : keys ≠ [])
    (h15 : keys.length ≤ 15) : PE X (.Dict keys values pos) (tDisp trs) := by
  intro pins s σ H Q I q
  have hn := I.hok.fresh (Nat.le_refl s.heap.objs.size)
  have I1 := I.laid (a := s.heap.objs.size) (o := .dK []) (h' := s.heap.push { cls := .type "dict", data := .dict #[] }) (t' := s.toks) (fun _ _ q => Heap.get?_push_of_some _ q) (Nat.le_refl _) (dk_empty s.heap I.big)
  refine wpAny_Dict_walk (knd := mixKind X.prog X.w) hall hl h0 h15 (thn (h pins _ σ _ _ I1 (q _ hn)) fun ws s2 ⟨ps, H2, I2, rel, e, kvs, ep, lk, q2⟩ => ?_)
  subst ep
  obtain ⟨rs, c, rk⟩ := carries_of (P := X.prog) (w := X.w) rel
  obtain ⟨z, hd, vs0, r0, dd⟩ := dk_of I2.hok e
  cases r0
  refine ⟨rs, c, dd, fun h' dd' hs => ⟨.ref s.heap.objs.size, _, ?_, rfl, q2⟩⟩
  have hz : (mergeK [] kvs).length ≤ sizeLine := by
    have h1 := length_mergeK kvs []
    rw [List.length_nil] at h1
    rw [sizeLine_eq]; omega
  have he : ∃ q, h'.get? s.heap.objs.size = some q := let ⟨q, _, _, hq, _⟩ := dd'; ⟨q, hq⟩
  exact d_write I2 (by rw [e]; exact True.intro) hs he (dk_new hz hd (rk.merge .nil) dd')


/-! ### methods -/
structure M2 (X : Cx) (o : Expr) (m : Str) (apos : Pos) (e f : Expr) (cpos : Pos) : Prop where
  base : attributeBase o m X.env (eval o X.env) = eval o X.env
  few : ((backTo cpos (starEach [e, f] X.env)).all (fun x => !x.1) && (backToKw cpos (keywordEach [] X.env)).all (fun x => x.1.isSome)
    && decide (([e, f] : List Expr).length + ([] : List Keyword).length + (if ([] : List Keyword).isEmpty then 0 else 1) < 30)) = true
  line : (apos.endLine == cpos.line) = true
  trees : backTo cpos (starEach [e, f] X.env) = [(false, eval e X.env), (false, eval f X.env)]

/-- a is a dict, whatever its keys -/
def IsD (H : Hp) (a : Addr) : Prop := (∃ kvs, Rd H a (.dK kvs)) ∨ ∃ kvs, Rd H a (.dT kvs)
theorem isD_at {X : Cx} {pins : List (Addr × Obj)} {σ : St} {H : Hp} {s : Shared} {a : Addr} (I : Inv X pins σ H s) (d : IsD H a) :
    s.TypeIs (.ref a) "dict" ∧ (∀ b, Value.ref a = .ref b → ∃ ob, s.heap.get? b = some ob ∧ ob.dict = none) ∧ (a == sysModules) = false := by
  rcases d with ⟨kvs, e⟩ | ⟨kvs, e⟩
  · obtain ⟨_, hd, vs, _, dd⟩ := dk_rd I.hok e
    refine ⟨dd.typeIs, fun b q => ?_, hd⟩
    cases q
    obtain ⟨ob, _, _, h1, h2, _⟩ := dd
    exact ⟨ob, h1, h2.2.1⟩
  · obtain ⟨_, hd, xs, _, dd⟩ := dt_rd I.hok e
    refine ⟨dd.typeIs, fun b q => ?_, hd⟩
    cases q
    obtain ⟨ob, _, _, h1, h2, _⟩ := dd
    exact ⟨ob, h1, h2.2.1⟩

section
variable {X : Cx} {pins : List (Addr × Obj)} {σ : St} {H : Hp} {s : Shared} {a : Addr} {y d : V} {u r : Value} {o : Option V} {A : Around} {E : Value → Shared → Prop}
/-- d.get(y, x) -/
theorem d_get2 {Q : Value → Shared → Prop} (hu : A.units + 1 < cLine) (I : Inv X pins σ H s) (g : DGet H a y o) (ry : RelV y u) (rd : RelV d r) (h : ∀ w' s', Inv X pins σ H s' → RelV (o.getD d) w' → Q w' s') :
    wpAny (model X.prog X.w) A (call (.builtin "dict.get") [.ref a, u, r]) Q E s := by
  rcases g with ⟨kvs, k, e, ey, l⟩ | ⟨kvs, k, b, e, ey, eb, l⟩
  · subst ey
    obtain ⟨z, hd, vs, rel, dd⟩ := dk_rd I.hok e
    refine call_meetsIn PySem.F.slot_dict_get dd.typeIs PySem.F.entry_dict_get (PySem.F.args_dict_get_3 _ _ _) (meets_dict_get_default (mixKind X.prog X.w) a (kV_is ry) hd r) ⟨_, dd.mapOf, h _ _ (I.tok _) ?_⟩
    rw [l]
    exact (rel.val k).getD rd
  · subst ey
    cases (show u = Value.ref b from ry)
    obtain ⟨z, hd, xs, rel, dd⟩ := dt_rd I.hok e
    refine call_meetsIn PySem.F.slot_dict_get dd.typeIs PySem.F.entry_dict_get (PySem.F.args_dict_get_3 _ _ _) (meetsH_dict_get_default (tupleKind (mixKind X.prog X.w)) a b hd r) ⟨tupleKind_room_in1 hu, k, xs, key_of I.hok eb, dd, h _ _ (I.tok _) ?_⟩
    rw [l]
    exact (rel.val k).getD rd
end

def tDGet2 (td ty tx : TE) : TE := fun σ H Q => td σ H fun x H1 => ∃ a, x = .ref a ∧ IsD H1 a ∧ ty σ H1 fun y H2 => tx σ H2 fun z H3 => ∃ o, DGet H3 a y o ∧ Q (o.getD z) H3
section
variable {X : Cx} {o e f : Expr} {apos cpos : Pos} {td ty tx : TE}
theorem pe_dget2 (hu : X.A.units + 1 < cLine) (ho : PE X o td) (he : PE X e ty) (hf : PE X f tx) (m : M2 X o "get" apos e f cpos) : PE X (.Call (.Attribute o "get" apos) [e, f] [] cpos) (tDGet2 td ty tx) := by
  intro pins s σ H Q I h
  refine wpAny_Call_method m.base m.few m.line PySem.F.plainAttrs_dict PySem.F.slot_dict_get PySem.F.type_dict_get (thn (ho pins s σ H _ I h) fun u s1 ⟨x, H1, I1, rx, a, ex, d, q1⟩ => ?_)
  subst ex
  obtain rfl : u = Value.ref a := rx
  obtain ⟨t1, t2, _⟩ := isD_at I1 d
  refine ⟨t1, t2, ?_⟩
  rw [m.trees]
  refine Calls.callWith_builtin rfl (Calls.evalArgs_plain (Calls.spliced_cons (thn (he pins s1 σ H1 _ I1 q1) fun iv s2 ⟨y, H2, I2, ry, q2⟩ =>
    Calls.spliced_cons (thn (hf pins s2 σ H2 _ I2 q2) fun fv s3 ⟨z, H3, I3, rz, ov, g, q3⟩ => Calls.spliced_nil ?_))))
  exact d_get2 hu I3 g ry rz fun w' s4 I4 rw' => ⟨_, H3, I4, rw', q3⟩
end

/-! ### dict(d): a copy -/
section
variable {X : Cx} {pins : List (Addr × Obj)} {σ : St} {H : Hp} {s : Shared} {a : Addr} {kvs : List (Key × V)} {A : Around} {E : Value → Shared → Prop}
end


section
variable {X : Cx} {pins : List (Addr × Obj)} {σ : St} {H : Hp} {s : Shared} {a : Addr} {y : V} {u : Value} {A : Around} {E : Value → Shared → Prop}
end
end L2

namespace Att
open PySem PySem.W PySem.Calls PyProof.Rows

/-! ### the script -/
theorem ints_of_wellAll {P : Params} {h : Heap} : ∀ (ns : List Int) (vs : List Value), WellAll P h vs (ns.map WData.int) → IntsAre vs ns := by
  intro ns
  induction ns with
  | nil =>
    intro vs w
    rw [List.map_nil] at w
    cases w
    exact .nil
  | cons n ns ih =>
    intro vs w
    rw [List.map_cons] at w
    cases w with
    | cons a b =>
      cases a
      exact .cons _ _ (ih _ b)

theorem script_of {l : OpenLaw} {n : Nat} (hn : l.most = some n) {P : Params} {h : Heap} {args : List WData} {vals : List Value}
    (hpre : l.row.toRowW.claim.pre args = true) (hwl : WellAll P h vals args) :
    ∃ a vs ns, vals = [Value.ref a] ∧ args = [WData.list (ns.map WData.int)] ∧ h.get? a = some { cls := .type "list", data := .seq vs.toArray } ∧ IntsAre vs ns ∧ ns.length ≤ n := by
  have hsh : WShape.hasAll [] args [.list .int] = true := (pre_splitW hpre).1
  have hc : l.pre.holds [] { args := args } = true := (pre_splitW hpre).2
  obtain ⟨d, r, rfl, h1, h2⟩ := hasAllW_cons hsh
  obtain rfl := hasAllW_nil h2
  obtain ⟨xs, rfl, h3⟩ := hasW_list h1
  obtain ⟨ns, rfl⟩ := items_int h3
  have hlen : ns.length ≤ n := by
    unfold OpenLaw.pre at hc
    have h4 : (WTm.not (.lt (.lit (.int (n : Int))) (.len (.arg 0)))).holds [] { args := [.list (ns.map .int)] } = true := by
      have h4 := (holds_andW hc).1
      rw [hn] at h4
      exact h4
    have h5 := condW_of h4 (w_not (w_lt w_lit (w_len_list (w_arg rfl))))
    rw [List.length_map] at h5
    refine Nat.le_of_not_lt fun q => ?_
    have q' : (n : Int) < ((ns.length : Nat) : Int) := by omega
    first
      | (rw [decide_eq_true q'] at h5; exact absurd h5 (by decide))
      | (simp at h5; omega)
  cases hwl with
  | cons w1 w2 =>
    cases w2
    cases w1 with
    | list ho hall => exact ⟨_, _, ns, rfl, rfl, ho, ints_of_wellAll ns _ hall, hlen⟩

theorem post_true (l : OpenLaw) (args : List WData) : l.row.toRowW.claim.post args (.bool true) args = true :=
  postW_of (r := l.row.toRowW) (X := (true == true))
    (show WShape.has [] (.bool true) .bool = true by first | rfl | decide | simp [WShape.has, WShape.arms, WShape.armsAll])
    (show (WTm.eq .res (.lit (.bool true))).value [] { args := args, res := some (.bool true), after := args } = some (.bool (true == true)) from w_eq_bool (w_res rfl) w_lit) rfl

/-! ### the attachment: holds_open's last premise (the goal 'hc' behind k_head) from a wpAny of the law's body -/
/-- the same from a codeAny of the CALL (for a layer whose function contracts speak of calls) -/
theorem attach_call {l : OpenLaw} {n : Nat} {q : Program} {loose : List Str} {XP : (Str → Option Value) → Heap → Prop} {YP : World → Heap → Prop} {d : DefRec}
    (hn : l.most = some n) (hdf : d.params.defaults = [])
    (call : ∀ (w : World) (s₀ s₁ : Shared) (mg mb : Str → Option Value) (fa : Addr) (o : Obj) (pm cd doc : Value) (a : Addr) (vs : List Value) (ns : List Int),
      Ground q loose [] XP w s₀ mg mb s₁.heap → YP w s₁.heap →
      s₁.heap.get? fa = some o → o.data = .func (docDef d.name d.params d.body d.scope pm cd doc) → s₁.heap.CodeRec cd d.name → mg d.name = some (.ref fa) →
      s₁.heap.get? a = some { cls := .type "list", data := .seq vs.toArray } → IntsAre vs ns → ns.length ≤ n → s₁.gens = #[] →
      codeAny (model l.prog w) callerA (.call (.ref fa) ⟨[.ref a], []⟩) (fun r s' => r = .ok (.ret (.bool true)) ∧ OldK s₁.heap s'.heap ∧ s'.os = s₁.os ∧ AllBare s'.gens) s₁) :
    WalkO q loose XP YP l.row.toRowW d [] (fun f vs => PySem.call f vs) := by
  intro w s₀ s₁ mg mb G Y fa o pm cd doc dV kV ho hd hcd hD hmg hg args vals as hpre hlay hrd hwl hlo
  obtain rfl : dV = .none := Dflts.none hD hdf
  obtain rfl : kV = .none := Dflts.noKw hD
  obtain ⟨a, vs, ns, rfl, rfl, hobj, hints, hlen⟩ := script_of hn hpre hwl
  refine enter_call (codeAny_mono (call w s₀ s₁ mg mb fa o pm cd doc a vs ns G Y ho (fd_plain hd) hcd hmg hobj hints hlen hg) fun r s' hq => ?_)
  obtain ⟨rfl, h2, h3, h4⟩ := hq
  exact ⟨.inl ⟨.bool true, .bool true, [], rfl, fun _ => rfl, .bool true, post_true l _, fun _ => ⟨List.Pairwise.nil, fun _ hm => (nomatch hm)⟩⟩, h2, h3, h4⟩

/-! ### rules over ANY heap (no ledger) from facts about the written part K: the library's own take a ledger (News) for what they write -/
section
variable {prog : Program} {w : World} {A : Around} {E : Value → Shared → Prop} {s : Shared} {K : Frag}

/-! the whole heap as the ledger: makes every rule that writes through a ledger a rule over any heap -/
def ledger (h : Heap) (L d : Addr) : List (Addr × Obj) := (List.range h.objs.size).filterMap fun a => if a = L ∨ a = d then none else (h.get? a).map fun o => (a, o)
end
end Att

namespace L2
open PySem PySem.Spec PyProof.Rows

theorem vals_ints {vs : List Value} {ns : List Int} (h : IntsAre vs ns) : Vals (ns.map V.int) vs := by
  induction h with
  | nil => exact .nil
  | cons n t h ih => exact .cons ⟨t, rfl⟩ ih

/-- nothing is tracked but the script, known to the object (or it is an object of the module) -/
def Only (H : Hp) : Prop := ∀ b, H b = none ∨ ∃ o xs, H b = some (.frz o (.lst xs))

/-- THE HEAD: the law's promise, at the heap behind the top. F, the promise of the law's def, may use that base is part of the heap (so K.In base, base.Ns mainGlobals mg stand in Mod) -/
theorem law_call {P : Program} {w : World} {K : PySem.W.Frag} {mg mb : Str → Option Value} {CX : CXT} {k : Nat} {fa a : Addr} {fd : FuncData} {x : Str} {sp : Sp} {s₁ : Shared} {vs : List Value} {ns : List Int}
    (KX : K.In s₁.heap) (hns : s₁.heap.Ns mainGlobals mg) (hb : s₁.heap.Ns builtinsNs mb) (hbb : ∀ x : Str, x ≠ "__name__" → mb x = bootBuiltins x) (hlim : s₁.heap.NoLimit) (hg : s₁.gens = #[])
    (ha : s₁.heap.get? a = some { cls := .type "list", data := .seq vs.toArray }) (hi : IntsAre vs ns) (hl : ns.length ≤ sizeLine) (hr : Room k callerA)
    (F : ∀ base : Heap, K.In base → base.Ns mainGlobals mg → FnOk P w K mg base CX k fa fd [x] sp) (hbind : ∀ (s : Shared) (u : Value), BindsTo s fd ⟨[u], []⟩ [(x, u)])
    (hsp : ∀ H : Hp, Only H → SqL K H a (ns.map V.int) → sp [.ref a] H (fun v _ => v = .bl true) fun _ _ _ => False)
    (hCX : ∀ H e s', CX [] H s₁ (fun _ _ _ => False) e s' → False) :
    codeAny (model P w) callerA (.call (.ref fa) ⟨[.ref a], []⟩) (fun r s' => r = .ok (.ret (.bool true)) ∧ OldK s₁.heap s'.heap ∧ s'.os = s₁.os ∧ AllBare s'.gens) s₁ := by
  have rv := vals_ints hi
  have lenV := hi.length
  -- from an abstract heap in which nothing but the script may be tracked
  have core : ∀ H : Hp, Only H → SqL K H a (ns.map V.int) → HOk P w H s₁.heap → (∀ b, H b ≠ none → b = a) → (H a ≠ none → K.lookup a = none) →
      codeAny (model P w) callerA (.call (.ref fa) ⟨[.ref a], []⟩) (fun r s' => r = .ok (.ret (.bool true)) ∧ OldK s₁.heap s'.heap ∧ s'.os = s₁.os ∧ AllBare s'.gens) s₁ := by
    intro H hO hS hok hA hK
    have base_of : ∀ {b : Addr} {o : Obj}, s₁.heap.get? b = some o → H b = none → (hidT s₁.heap H).get? b = some o := fun e n => hidT_get e n
    have noA : ∀ {b : Addr} {o : Obj} {es : Array DictEntry} {ep : Nat}, s₁.heap.get? b = some o → o.data = .dict es ep → H b = none := fun {b o es ep} e d => by
      cases q : H b with
      | none => rfl
      | some u =>
        have e' : b = a := hA b (by rw [q]; simp)
        subst e'
        rw [ha] at e; cases e
        have d' : Data.seq vs.toArray _ = Data.dict es ep := d
        cases d'
    have nsK : ∀ {b : Addr} {m : Str → Option Value}, s₁.heap.Ns b m → (hidT s₁.heap H).Ns b m := fun {b m} ⟨o, es, ep, e, d, r⟩ => ⟨o, es, ep, base_of e (noA e d), d, r⟩
    have hKb : K.In (hidT s₁.heap H) := fun b o e => base_of (KX b o e) (by
      cases q : H b with
      | none => rfl
      | some u =>
        have e' : b = a := hA b (by rw [q]; simp)
        subst e'
        rw [hK (by rw [q]; simp)] at e; cases e)
    have hM : Mod K mg (hidT s₁.heap H) := ⟨hKb, nsK hns, ⟨mb, nsK hb, hbb⟩, let ⟨mc, h1, h2⟩ := hlim; ⟨mc, nsK h1, h2⟩⟩
    have e0 : Env0 P w K mg (hidT s₁.heap H) callerA [] s₁ H := ⟨rfl, hM, fun b o e => of_hidT e, Nat.le_of_eq (hidT_size _ _), trivial, fun b hb => absurd (show b ∈ ([] : List Addr) from hb) (by simp), hok, .of_eq hg⟩
    refine codeAny_mono ((F _ hKb (nsK hns)).run callerA [] s₁ H ⟨[.ref a], []⟩ [.ref a] [.ref a] _ _ hr e0 (hbind s₁ (.ref a)) (.cons rfl .nil) (hsp H hO hS)) fun r s' h => ?_
    cases r with
    | error e => exact (hCX H e s' h).elim
    | ok fl =>
      cases fl with
      | next => exact False.elim h
      | brk => exact False.elim h
      | cont => exact False.elim h
      | ret u =>
        obtain ⟨v, H', os, bare, un, hok', r', q⟩ := h
        have q' : v = .bl true := q
        subst q'
        obtain rfl : u = Value.bool true := r'
        refine ⟨rfl, OldK.of_keep fun b o e => ?_, os, bare⟩
        cases q : H b with
        | none => exact un.keep b o e q (by intro z; exact absurd (show b ∈ ([] : List Addr) from z) (by simp)) (by simp)
        | some u =>
          rcases hO b with z | ⟨ob, xs, z⟩
          · rw [q] at z; cases z
          · have z2 := un.frzs b ob _ z
            obtain ⟨e1, _⟩ := hok b _ z
            obtain ⟨e2, _⟩ := hok' b _ z2
            rw [e] at e1; cases e1
            exact e2
  cases hk : K.lookup a with
  | some o =>
    -- the script is one of the module's own objects
    have e := KX a o hk
    rw [ha] at e
    cases e
    refine core (fun _ => none) (fun _ => .inl rfl) (.inr ⟨_, vs.toArray, _, hk, rfl, rfl, rfl, by rw [List.size_toArray, lenV]; exact hl, by simpa using rv⟩) (fun b u z => by have z' : (none : Option HO) = some u := z; cases z') (fun b z => absurd rfl z) fun z => absurd rfl z
  | none =>
    refine core (fun b => if b = a then some (.frz { cls := .type "list", data := .seq vs.toArray } (.lst (ns.map V.int))) else none) (fun b => ?_) (.inl (.inr ⟨{ cls := .type "list", data := .seq vs.toArray }, if_pos rfl⟩)) (fun b u z => ?_) (fun b z => ?_) fun _ => hk
    · by_cases hb : b = a
      · exact .inr ⟨_, _, if_pos hb⟩
      · exact .inl (if_neg hb)
    · by_cases hb : b = a
      · have z' := (if_pos hb).symm.trans z
        cases z'
        subst hb
        exact ⟨ha, by rw [List.length_map]; exact hl, vs, _, rv, ha⟩
      · have z' := (if_neg hb).symm.trans z
        cases z'
    · by_cases hb : b = a
      · exact hb
      · exact absurd (if_neg hb) z
end L2

namespace L2
open PySem PySem.Spec PyProof.Rows

abbrev KOf {K : PySem.W.Frag} {h : Heap} (_ : K.In h) : PySem.W.Frag := K

/-- the goal that k_head leaves (case hc), from the law's promise. F gives the function object fd (K's own) once, then the promise over every base -/
theorem walk_of {l : PySem.W.OpenLaw} {n k : Nat} {q : Program} {loose : List Str} {XP : (Str → Option Value) → Heap → Prop} {YP : World → Heap → Prop} {d : DefRec} {K : Params → PySem.W.Frag} {CX : World → CXT} {sp : World → Sp} {x : Str}
    (hn : l.most = some n) (hn2 : n ≤ sizeLine) (hdf : d.params.defaults = []) (hr : Room k callerA)
    (hY : ∀ (w : World) (h : Heap), YP w h → (K w.params).In h)
    (F : ∀ (w : World) (mg : Str → Option Value) (fa : Addr) (h : Heap), (K w.params).In h → h.Ns mainGlobals mg → mg d.name = some (.ref fa) →
      ∃ fd : FuncData, (∀ (s : Shared) (u : Value), BindsTo s fd ⟨[u], []⟩ [(x, u)]) ∧
        ∀ base : Heap, (K w.params).In base → base.Ns mainGlobals mg → FnOk l.prog w (K w.params) mg base (CX w) k fa fd [x] (sp w))
    (hsp : ∀ (w : World) (H : Hp) (a : Addr) (ns : List Int), ns.length ≤ n → Only H → SqL (K w.params) H a (ns.map V.int) → sp w [.ref a] H (fun v _ => v = .bl true) fun _ _ _ => False)
    (hCX : ∀ (w : World) (H : Hp) (s : Shared) (e : Value) (s' : Shared), CX w [] H s (fun _ _ _ => False) e s' → False) :
    PySem.W.WalkO q loose XP YP l.row.toRowW d [] (fun f vs => PySem.call f vs) := by
  refine Att.attach_call hn hdf fun w s₀ s₁ mg mb fa o pm cd doc a vs ns G Y ho hd hcd hmg hobj hints hlen hg => ?_
  have KX := hY w _ Y
  obtain ⟨fd, hb, hF⟩ := F w mg fa _ KX G.T.g hmg
  exact law_call KX G.T.g G.T.b G.T.builtins G.T.nolimit hg hobj hints (Nat.le_trans hlen hn2) hr hF hb (fun H hO hS => hsp w H a ns hlen hO hS) fun H e s' => hCX w H s₁ e s'
end L2

/- THE LAST THEOREM (shape; LID, My.* are yours):
   My.Adr: a structure of the addresses that your layer names (classes, functions); My.Txt K t: a structure (Prop) of the equations over K;
   My.txt_mk : {K} {implicit addresses ..} (e1 : nsIn K mainGlobals "law" = some (some (.ref f))) (e2 : K.lookup f = some ⟨oc, od, .func (fnOf "law" "law" params body scope dV kV doc pm an cdv ct), sl⟩) (e3 : codeIn K cdv "law" = true) .. : ∃ t, My.Txt K t

set_option maxRecDepth 100000 in
set_option maxHeartbeats 0 in
theorem PySem.Challenge.cw_LID_holds : PySem.Challenge.rw_LID.Holds := by
  w_on; o_law; k_head; (case hw => w_witness2)
  k_fill
  refine L2.walk_of (l := PySem.Challenge.rw_LID) (n := 63) (k := 40) (x := "script") (CX := fun w => ..) (sp := fun _ => My.sp_law) rfl (by decide) rfl ⟨rfl, by decide, by decide⟩ (fun w h Y => PySem.W.kIn_of Y) ?F ?S ?C
  case F =>
    intro w mg fa h KX G hmg
    have T : ∃ t, My.Txt (L2.KOf KX) t := by
      dsimp only [L2.KOf]                          -- K must stand as «<heap const> w.params» for k_is
      refine' My.txt_mk ?e1 ?e2 ?e3 ..
      (case e1 => PySem.W.k_is)                    -- in the order: a name -> its address -> its object -> its parts
      (case e2 => PySem.W.k_is)
      ..
    obtain ⟨t, T⟩ := T
    have e0 := hmg.symm.trans (PySem.W.mg_of KX G T.law)
    cases e0                                       -- fa is the law's own address
    exact ⟨_, fun s u => .of_eq rfl, fun base kb nb => My.law_fn T kb nb⟩     -- if «.of_eq rfl» comes too early: refine' ⟨_, ?b, fun base kb nb => My.law_fn T kb nb⟩; exact fun s u => .of_eq rfl
  case S => exact fun w H a ns hl hO hS => ..
  case C => exact ..
(the tactic k_is has no namespace: write k_is) -/

/-! SHORT WORDS over the layer: a def of the text, its body, what a loop and a test want. -/
namespace L2
open PySem PySem.Spec PyProof.Rows

/-! ### the text by places -/
/-- the j-th statement of a class's body -/
def inClass (s : Stmt) (j : Nat) : Stmt := match s with
  | .ClassDef _ _ _ body _ _ _ _ _ _ _ => body.getD j (.Pass ⟨0, 0, 0, 0⟩)
  | _ => .Pass ⟨0, 0, 0, 0⟩
def defArgs (s : Stmt) : Arguments := match s with
  | .FunctionDef _ a _ _ _ _ _ _ _ _ => a
  | _ => { posonlyargs := [], args := [], vararg := none, kwonlyargs := [], kw_defaults := [], kwarg := none, defaults := [] }
def defBody (s : Stmt) : List Stmt := match s with
  | .FunctionDef _ _ b _ _ _ _ _ _ _ => b
  | _ => []
def defScope (s : Stmt) : Scope := match s with
  | .FunctionDef _ _ _ _ _ _ sc _ _ _ => sc
  | _ => { kind := .function, names := [], isGenerator := false, isCoroutine := false }

/-! ### no exception leaves a def -/
abbrev CX0 : CXT := fun _ _ _ _ _ _ => False
abbrev E0 : XK := fun _ _ _ => False
theorem pass0 {X : Cx} : Passes CX0 X E0 := fun _ _ _ _ _ _ _ h => h.elim

/-! ### a def (or method) of the text as it stands behind the top -/
structure Fun (K : PySem.W.Frag) (x qual : Str) (st : Stmt) (f : Addr) (fd : FuncData) : Prop where
  ex : ∃ (oc : Value) (od : Option Addr) (kV doc pm : Value) (an : Option Addr) (cdv ct : Value) (osl : Array (Option Value)),
    fd = PySem.W.fnOf x qual (defArgs st) (defBody st) (defScope st) .none kV doc pm an cdv ct ∧ K.lookup f = some ⟨oc, od, .func fd, osl⟩ ∧ PySem.W.codeIn K cdv qual = true
  kp : PySem.W.keepIn K (.ref f) = true
section
variable {P : Program} {w : World} {K : PySem.W.Frag} {mg : Str → Option Value} {base : Heap}
/-- THE RULE for a def: its body as a term of rules, and the reading of that term -/
theorem Fun.ok {x qual : Str} {st : Stmt} {f : Addr} {fd : FuncData} {N ps : List Str} {k : Nat} {sp : Sp} (F : Fun K x qual st f fd) (S : FnScope N ps (defScope st)) (len : ∀ vs H Q E, sp vs H Q E → vs.length = ps.length)
    (hbody : ∀ (cdv : Value) (A : Around) (outer : List Env) (s : Shared) (H : Hp) (vs : List V) (Q : VK) (E : XK), Room k (A.deeper (envOfC qual (defScope st) s.heap.objs.size f cdv)) → sp vs H Q E →
      ∃ t, PSs (cxOf CX0 P w K mg base N qual (defScope st) f cdv A outer s H E).nox (defBody st) t ∧ t { nx := fun _ H' => Q .non H', rt := Q } (start N vs) H) : FnOk P w K mg base CX0 (k + 1) f fd ps sp := by
  obtain ⟨oc, od, kV, doc, pm, an, cdv, ct, osl, rfl, lk, hcd⟩ := F.ex
  refine fn_of lk hcd S len fun A outer s H vs Q E hr hsp => ?_
  obtain ⟨t, h, q⟩ := hbody cdv A outer s H vs Q E hr hsp
  exact ⟨t, h.nox, q⟩
/-- how its arguments bind (no defaults): h is «fun _ _ _ _ _ _ us hl => match us, hl with | [_, _], _ => rfl», one _ a parameter -/
theorem Fun.binds {x qual : Str} {st : Stmt} {f : Addr} {fd : FuncData} {ps : List Str} (F : Fun K x qual st f fd)
    (h : ∀ (kV doc pm : Value) (an : Option Addr) (cdv ct : Value) (us : List Value), us.length = ps.length → bindArgs (PySem.W.fnOf x qual (defArgs st) (defBody st) (defScope st) .none kV doc pm an cdv ct) ⟨us, []⟩ = pure (ps.zip us)) : Binds K fd ps [] := by
  obtain ⟨oc, od, kV, doc, pm, an, cdv, ct, osl, rfl, lk, hcd⟩ := F.ex
  exact .all (h kV doc pm an cdv ct)
theorem fun_mk {x qual : Str} {st : Stmt} {f : Addr} {oc : Value} {od an : Option Addr} {osl : Array (Option Value)} {kV doc pm cdv ct : Value} (l : K.lookup f = some ⟨oc, od, .func (PySem.W.fnOf x qual (defArgs st) (defBody st) (defScope st) .none kV doc pm an cdv ct), osl⟩)
    (c : PySem.W.codeIn K cdv qual = true) (k : PySem.W.keepIn K (.ref f) = true) : Fun K x qual st f (PySem.W.fnOf x qual (defArgs st) (defBody st) (defScope st) .none kV doc pm an cdv ct) := ⟨⟨oc, od, kV, doc, pm, an, cdv, ct, osl, rfl, l, c⟩, k⟩
end
theorem hu_of {A : Around} {k : Nat} (hr : Room k A) : A.units + 1 < cLine := Nat.lt_of_le_of_lt (Nat.add_le_add_left (by decide : 1 ≤ 64) _) hr.units
theorem small1000 {n : Nat} (h : n ≤ 1000) : n < sizeLine := Nat.lt_of_le_of_lt h (by decide)

/-! ### expressions in short: the name that stands in the i-th slot -/
section
variable {X : Cx}
theorem pv (i : Nat) {x : Str} {pos : Pos} (hN : X.N[i]? = some x := by rfl) (hv : Vis X.env.scope x := by first | exact Or.inl rfl | exact Or.inr (Or.inl rfl) | exact Or.inr (Or.inr rfl)) (hd : (x == ("__debug__" : Str)) = false := by decide)
    (hcd : (x == ("__classdict__" : Str)) = false := by decide) : PE X (.Name x pos) (tVar i) := pe_var hN hv hd hcd
end

/-! ### tests -/
theorem iteF {A B : Prop} (h : B) : if false = true then A else B := by
  rw [if_neg Bool.false_ne_true]
  exact h
theorem iteT {A B : Prop} (h : A) : if true = true then A else B := by
  rw [if_pos rfl]
  exact h
theorem ite2 {c A B : Prop} [Decidable c] (h1 : c → A) (h2 : ¬ c → B) : if c then A else B := by
  by_cases h : c
  · rw [if_pos h]
    exact h1 h
  · rw [if_neg h]
    exact h2 h
theorem iteNS {c A B : Prop} [Decidable c] (hc : c) (h : B) : if (!decide c) = true then A else B := by
  rw [decide_eq_true hc]
  exact iteF h

/-! ### heaps -/
/-- all that was tracked is as it was -/
def Same (H H' : Hp) : Prop := ∀ b o, H b = some o → H' b = some o
theorem Same.refl (H : Hp) : Same H H := fun _ _ h => h
theorem Same.trans {H H1 H2 : Hp} (a : Same H H1) (b : Same H1 H2) : Same H H2 := fun c o h => b c o (a c o h)
theorem Same.free {H H' : Hp} (e : Same H H') {l : Addr} (h : H' l = Option.none) : H l = Option.none := by
  cases q : H l with
  | none => rfl
  | some o =>
    rw [e l o q] at h
    cases h
theorem Same.seq {K : PySem.W.Frag} {H H' : Hp} {a : Addr} {xs : List V} (e : Same H H') (h : SqL K H a xs) : SqL K H' a xs := by
  rcases h with (h | ⟨o, h⟩) | h
  · exact .inl (.inl (e _ _ h))
  · exact .inl (.inr ⟨o, e _ _ h⟩)
  · exact .inr h

/-! ### a dict's pairs: keys that differ -/
section
variable {κ : Type} [DecidableEq κ]
end
end L2

set_option Elab.async false
set_option linter.all false
set_option maxRecDepth 100000
set_option maxHeartbeats 4000000
namespace L2
open PySem PySem.Spec PyProof.Rows

theorem natlt {a n : Addr} (h : a < n) : @LT.lt Nat _ a n := h
/-! ### a comprehension's block -/
/-- the cells that a block takes along -/
def clOf (env : Env) : List (Str × NameKind) → List (Str × Addr) → List (Str × Addr)
  | [], acc => acc
  | (n, k) :: r, acc => if k == .free then clOf env r ((n, (env.cells.lookup n).getD 0) :: acc) else clOf env r acc
theorem closure_eq {env : Env} {scope : Scope} (h : ∀ y ∈ scope.names, y.2 = .free → (env.cells.lookup y.1).isSome = true) : closureFor scope env = pure (clOf env scope.names []) := by
  have go : ∀ (ns : List (Str × NameKind)) (acc : List (Str × Addr)), (∀ y ∈ ns, y.2 = .free → (env.cells.lookup y.1).isSome = true) →
      (forIn ns acc (fun x cs => match x with | (name, kind) => if (kind == .free) = true then do let c ← cellOf env name; pure (ForInStep.yield ((name, c) :: cs)) else pure (ForInStep.yield cs)) : Sem (List (Str × Addr))) = pure (clOf env ns acc) := by
    intro ns
    induction ns with
    | nil => intro acc _; rfl
    | cons y r ih =>
      intro acc hy
      obtain ⟨n, k⟩ := y
      rw [List.forIn_cons]
      by_cases hk : k = .free
      · subst hk
        have hs := hy (n, .free) List.mem_cons_self rfl
        obtain ⟨c, hc⟩ := Option.isSome_iff_exists.mp hs
        have e : cellOf env n = pure c := by unfold cellOf; rw [hc]
        show _ = pure (clOf env r ((n, (env.cells.lookup n).getD 0) :: acc))
        rw [← ih _ fun y hm => hy y (List.mem_cons_of_mem _ hm)]
        simp only [beq_self_eq_true, if_true, e, pure_bind, hc, Option.getD_some]
      · have hb : (k == NameKind.free) = false := by simpa using hk
        have hc : clOf env ((n, k) :: r) acc = clOf env r acc := by
          show (if (k == NameKind.free) = true then _ else _) = _
          rw [if_neg (by rw [hb]; decide)]
        rw [hc, ← ih _ fun y hm => hy y (List.mem_cons_of_mem _ hm)]
        simp only [hb, Bool.false_eq_true, if_false, pure_bind]
  have q := go scope.names [] h
  unfold closureFor
  show (forIn scope.names [] _ >>= fun r => pure r) = _
  rw [bind_pure]
  exact q
theorem clOf_lookup {env : Env} : ∀ (ns : List (Str × NameKind)) (acc : List (Str × Addr)) (x : Str), (∀ y ∈ ns, y.2 = .free → (env.cells.lookup y.1).isSome = true) →
    (clOf env ns acc).lookup x = if (x, NameKind.free) ∈ ns then env.cells.lookup x else acc.lookup x
  | [], acc, x, _ => by simp [clOf]
  | (n, k) :: r, acc, x, h => by
    have hr : ∀ y ∈ r, y.2 = .free → (env.cells.lookup y.1).isSome = true := fun y hm => h y (List.mem_cons_of_mem _ hm)
    by_cases hk : k = .free
    · subst hk
      show (clOf env r ((n, (env.cells.lookup n).getD 0) :: acc)).lookup x = _
      rw [clOf_lookup r _ x hr]
      obtain ⟨c, hc⟩ := Option.isSome_iff_exists.mp (h (n, .free) List.mem_cons_self rfl)
      have hc : env.cells.lookup n = some c := hc
      by_cases hm : (x, NameKind.free) ∈ r
      · rw [if_pos hm, if_pos (List.mem_cons_of_mem _ hm)]
      · rw [if_neg hm]
        by_cases e : x = n
        · subst e
          rw [if_pos List.mem_cons_self, List.lookup_cons, hc]
          simp
        · rw [if_neg (fun z => (List.mem_cons.mp z).elim (fun q => e (congrArg Prod.fst q)) hm), List.lookup_cons]
          have : (x == n) = false := by simpa using e
          rw [this]
    · have hb : (k == NameKind.free) = false := by simpa using hk
      have hc : clOf env ((n, k) :: r) acc = clOf env r acc := by
        show (if (k == NameKind.free) = true then _ else _) = _
        rw [if_neg (by rw [hb]; decide)]
      rw [hc, clOf_lookup r acc x hr]
      have : ((x, NameKind.free) ∈ (n, k) :: r) ↔ (x, NameKind.free) ∈ r := by
        constructor
        · intro z
          rcases List.mem_cons.mp z with q | q
          · exact absurd (congrArg Prod.snd q).symm hk
          · exact q
        · exact List.mem_cons_of_mem _
      simp only [this]

theorem relabel_lookup (env : Env) : ∀ (ns : List (Str × NameKind)) (x : Str),
    (ns.map fun (n, k) => if (k == .free && env.scope.kind == .function && env.kindOf n == some .cell) then (n, NameKind.cell) else (n, k)).lookup x =
      (ns.lookup x).map fun k => if (k == .free && env.scope.kind == .function && env.kindOf x == some .cell) = true then NameKind.cell else k
  | [], x => rfl
  | (n, k) :: r, x => by
    show List.lookup x ((if (k == NameKind.free && env.scope.kind == .function && env.kindOf n == some .cell) = true then (n, NameKind.cell) else (n, k)) :: _) = _
    cases hx : x == n with
    | true =>
      have e : x = n := by simpa using hx
      subst e
      by_cases hc : (k == NameKind.free && env.scope.kind == .function && env.kindOf x == some .cell) = true
      · rw [if_pos hc]; simp only [List.lookup_cons, hx, Option.map_some, if_pos hc]
      · rw [if_neg hc]; simp only [List.lookup_cons, hx, Option.map_some, if_neg hc]
    | false =>
      have ih := relabel_lookup env r x
      by_cases hc : (k == NameKind.free && env.scope.kind == .function && env.kindOf n == some .cell) = true
      · rw [if_pos hc]; simp only [List.lookup_cons, hx]; exact ih
      · rw [if_neg hc]; simp only [List.lookup_cons, hx]; exact ih

/-- the block's names: its own first, then those that it takes along: the outer names at the places caps -/
structure CompScope (N own : List Str) (caps : List Nat) (XN : List Str) (outer scope : Scope) : Prop where
  kind : scope.kind = .function
  nocell : ∀ y ∈ scope.names, y.2 ≠ .cell
  names : ∀ y ∈ scope.names, y.2 = .local → scope.names.lookup y.1 = some .local
  free : ∀ y ∈ scope.names, y.2 = .free → outer.names.lookup y.1 = some .cell ∨ outer.names.lookup y.1 = some .free
  nd : N.Nodup
  len : N.length = own.length + caps.length
  cap : ∀ (j : Nat), j < caps.length → N[own.length + j]? = XN[caps.getD j 0]? ∧ ∃ x, N[own.length + j]? = some x ∧ (x, NameKind.free) ∈ scope.names ∧ scope.names.lookup x = some .free

def st0 (own : List Str) (caps : List Nat) (σ : St) : St := own.map (fun _ => none) ++ caps.map (fun i => (σ[i]?).join)

def cxComp (X : Cx) (scope : Scope) (C : Addr) (N : List Str) (s : Shared) (H : Hp) (fp : List Addr) : Cx :=
  { X with N := N, s₀ := s, H₀ := H, env := compEnvC scope (clOf X.env scope.names []) C X.env, outer := X.stack, ex := fp, fn := fun _ => false, pn := [], xe := fun _ _ => False }

section
variable {X : Cx} {pins : List (Addr × Obj)} {σ : St} {H : Hp} {s : Shared} {scope : Scope} {N own : List Str} {caps : List Nat} {fp : List Addr} {C : Nat}
theorem CompScope.csome (S : CompScope N own caps X.N X.env.scope scope) (ok : X.Ok) : ∀ y ∈ scope.names, y.2 = .free → (X.env.cells.lookup y.1).isSome = true := fun y hy hf => by
  obtain ⟨c, e⟩ := ok.has y.1 (S.free y hy hf)
  rw [e]; rfl
theorem CompScope.csub (S : CompScope N own caps X.N X.env.scope scope) (ok : X.Ok) {x : Str} {c : Addr} (h : (clOf X.env scope.names []).lookup x = some c) : X.env.cells.lookup x = some c := by
  rw [clOf_lookup _ _ _ (S.csome ok)] at h
  split at h
  · exact h
  · simp at h
theorem CompScope.lookFree {S : CompScope N own caps X.N X.env.scope scope} {x : Str} (h : (relabel scope X.env).names.lookup x = some .cell ∨ (relabel scope X.env).names.lookup x = some .free) : (x, NameKind.free) ∈ scope.names := by
  have e := relabel_lookup X.env scope.names x
  have e' : (relabel scope X.env).names.lookup x = (scope.names.lookup x).map fun k => if (k == .free && X.env.scope.kind == .function && X.env.kindOf x == some .cell) = true then NameKind.cell else k := e
  rw [e'] at h
  cases q : scope.names.lookup x with
  | none => rw [q] at h; simp at h
  | some k =>
    have hm := PySem.mem_of_lookup q
    by_cases hk : k = .free
    · subst hk; exact hm
    · rw [q] at h
      have hb : (k == NameKind.free) = false := by simpa using hk
      simp only [Option.map_some, hb, Bool.false_and, Bool.false_eq_true, if_false] at h
      rcases h with h | h
      · exact absurd (Option.some.inj h) (S.nocell _ hm)
      · exact absurd (Option.some.inj h) hk

/-- the block's context is in order, and its names stand -/
theorem Inv.comp {h1 : Heap} {D : Nat} (I : Inv X pins σ H s) (S : CompScope N own caps X.N X.env.scope scope) (hfp : ∀ b ∈ fp, FpOk X pins H b) (hfo : ∀ b ∈ fp, ∃ o, s.heap.get? b = some o)
    (hD : D = s.heap.objs.size) (hC : C = s.heap.objs.size + 1) (old : ∀ b o, s.heap.get? b = some o → h1.get? b = some o) (hns : h1.Ns C (fun _ => none)) (hl : h1.get? D = some { cls := .type "list", data := .seq #[] }) {t : Nat} :
    Inv (cxComp X scope C N s H fp) [] (st0 own caps σ) (upd H D (.lst [])) { s with heap := h1, toks := t } := by
  have some' := S.csome I.ok
  have sub : ∀ {x c}, (clOf X.env scope.names []).lookup x = some c → X.env.cells.lookup x = some c := fun h => S.csub I.ok h
  have freshD : H D = none := I.hok.fresh (by rw [hD]; exact Nat.le_refl _)
  have freshC : H C = none := I.hok.fresh (by rw [hC]; exact Nat.le_succ _)
  have cellLt : ∀ x c, X.env.cells.lookup x = some c → c < s.heap.objs.size := fun x c e => by
    obtain ⟨v, z⟩ := I.cell x c e
    exact z.lt
  have fpLt : ∀ b ∈ fp, b < s.heap.objs.size := fun b hb => by
    obtain ⟨o, e⟩ := hfo b hb
    exact Heap.lt_size e
  have DC : D ≠ C := by omega
  refine ⟨⟨I.ok.mod, S.kind, I.ok.glob, I.ok.blt, by show s.heap.objs.size ≤ C; omega, fun x y c e1 e2 => I.ok.inj x y c (sub e1) (sub e2), fun x h => ?_, fun x c h => (by cases h), I.ok.hd, I.ok.frames, Or.inl rfl, fun b hb => ⟨?_, fun x c e => ?_⟩, I.bs, Nat.le_trans I.ok.bsz I.sz, fun b o e hb => ?_, fun b hb z => ?_, I.stack, I.stkFree⟩,
    rfl, I.bare, Un.laid old (by show s.heap.objs.size ≤ D; omega) freshD, ⟨_, hns, fun j x v e1 e2 e3 => ?_⟩, fun x c e => ?_, ?_, fun x c e => ?_, fun p hp => ?_, I.hok.laid old (by omega) ?_, ?_⟩
  · have hm := CompScope.lookFree (S := S) (X := X) h
    obtain ⟨c, e⟩ := Option.isSome_iff_exists.mp (some' _ hm rfl)
    exact ⟨c, by show (clOf X.env scope.names []).lookup x = _; rw [clOf_lookup _ _ _ some', if_pos hm]; exact e⟩
  · exact Nat.ne_of_lt (show @LT.lt Nat _ b C by have := natlt (fpLt b hb); omega)
  · exact (hfp b hb).2.2.2.2.1 x c (sub e)
  · rcases (hfp b hb).2.2.2.1 with z | z
    · exact I.ok.noex b o e z
    · exact absurd (Nat.lt_of_lt_of_le (Heap.lt_size e) (Nat.le_trans I.ok.bsz z)) (Nat.lt_irrefl _)
  · rcases List.mem_cons.mp (I.stkSub b z) with q | q
    · exact (hfp b hb).2.1 q
    · exact (hfp b hb).2.2.1 q
  · have e1 : N[j]? = some x := e1
    have hj : own.length ≤ j := by
      by_cases q : own.length ≤ j
      · exact q
      · exfalso
        unfold st0 at e2
        rw [List.getElem?_append_left (by simp; omega), List.getElem?_map] at e2
        cases r : own[j]? with
        | none => rw [r] at e2; cases e2
        | some a => rw [r] at e2; cases e2
    have hjl : j < N.length := (List.getElem?_eq_some_iff.mp e1).1
    have hjc : j - own.length < caps.length := by have := S.len; omega
    obtain ⟨c1, x', c2, c3, c4⟩ := S.cap (j - own.length) hjc
    rw [show own.length + (j - own.length) = j by omega] at c1 c2
    rw [e1] at c2
    cases c2
    have e2' : (σ[caps.getD (j - own.length) 0]?).join = some v := by
      unfold st0 at e2
      rw [List.getElem?_append_right (by simp; omega), List.getElem?_map, List.length_map] at e2
      rw [List.getD_eq_getElem?_getD]
      cases r : caps[j - own.length]? with
      | none => rw [r] at e2; cases e2
      | some a => rw [r] at e2; exact Option.some.inj e2
    have e2'' : σ[caps.getD (j - own.length) 0]? = some (some v) := by
      cases r : σ[caps.getD (j - own.length) 0]? with
      | none => rw [r] at e2'; cases e2'
      | some a => rw [r] at e2'; exact congrArg Option.some e2'
    have kx : X.env.kindOf x = some .cell ∨ X.env.kindOf x = some .free := S.free _ c3 rfl
    obtain ⟨m, hn, hl'⟩ := I.loc
    obtain ⟨u, r, l⟩ := hl' _ x v (by rw [← c1]; exact e1) e2'' (by rcases kx with z | z; exact .inr (.inl z); exact .inr (.inr z))
    refine ⟨u, r, .inr ⟨?_, ?_⟩⟩
    · show (relabel scope X.env).names.lookup x = some .cell ∨ (relabel scope X.env).names.lookup x = some .free
      have e : (relabel scope X.env).names.lookup x = (scope.names.lookup x).map fun k => if (k == .free && X.env.scope.kind == .function && X.env.kindOf x == some .cell) = true then NameKind.cell else k := relabel_lookup X.env scope.names x
      rw [e, c4, Option.map_some]
      split
      · exact .inl rfl
      · exact .inr rfl
    · rcases l with ⟨hk, _⟩ | ⟨_, c, hc, z⟩
      · rcases kx with q | q <;> rw [hk] at q <;> cases q
      · refine ⟨c, ?_, ?_⟩
        · show (clOf X.env scope.names []).lookup x = _
          rw [clOf_lookup _ _ _ some', if_pos c3]; exact hc
        · obtain ⟨o, ho, hd⟩ := z
          exact ⟨o, old c o ho, hd⟩
  · obtain ⟨v, o, ho, hd⟩ := I.cell x c (sub e)
    exact ⟨v, o, old c o ho, hd⟩
  · show upd H D (.lst []) C = none
    rw [upd_ne DC.symm]; exact freshC
  · show upd H D (.lst []) c = none
    rw [upd_ne (Nat.ne_of_lt (by have := natlt (cellLt x c (sub e)); omega))]; exact I.freeC x c (sub e)
  · cases hp
  · exact ⟨Nat.zero_le _, [], 0, .nil, hl⟩
  · show (own.map (fun _ => none) ++ caps.map _).length = N.length
    rw [List.length_append, List.length_map, List.length_map, S.len]

/-- behind the block -/
theorem Inv.uncomp {pins' : List (Addr × Obj)} {σ' : St} {H' : Hp} {s' : Shared} {h' : Heap} (I : Inv X pins σ H s) (hfp : ∀ b ∈ fp, FpOk X pins H b) (hC : s.heap.objs.size ≤ C) (J : Inv (cxComp X scope C N s H fp) pins' σ' H' s') (hs : Heap.SameBut C s'.heap h') :
    Inv X pins σ H' { s' with heap := h' } := by
  have nC : ∀ b o, s.heap.get? b = some o → b ≠ C := fun b o e => Nat.ne_of_lt (by have := natlt (Heap.lt_size e); omega)
  have u := J.base
  have frC : H' C = none := J.free
  refine I.call' (ch := fp) (s' := { s' with heap := h' }) J.os ⟨fun b o e n hb hx => ?_, fun b o e n hb hx => ?_, u.free, fun b o e hx => ?_, u.tups, u.frzs, u.tbls⟩ (fun a o e => (J.hok a o e).stay (fun b v hb q => ?_) (fun _ q => q) fun _ _ q => q) J.bare fun b hb => ?_
  · exact (hs.2 b (nC b o e)).trans (u.keep b o e n hb hx)
  · obtain ⟨sl, q⟩ := u.slot b o e n hb hx
    exact ⟨sl, (hs.2 b (nC b o e)).trans q⟩
  · obtain ⟨o', q⟩ := u.there b o e hx
    exact ⟨o', (hs.2 b (nC b o e)).trans q⟩
  · refine (hs.2 b ?_).trans q
    intro z
    subst z
    rcases hb with z | z
    · subst z; rw [frC] at e; cases e
    · rw [frC] at z; cases z
  · exact ⟨(hfp b hb).2.2.2.1, (hfp b hb).2.1, (hfp b hb).2.2.2.2.1, (hfp b hb).2.2.2.2.2⟩
end

section
variable {prog : Program} {w : World} {A : Around} {R : Result → Shared → Prop} {s : Shared}
theorem compLoop_any {elt target iter : Expr} {ifs : List Expr} {scope : Scope} {pos : Pos} {it acc : Value} {env : Env} (I : Nat → Shared → Prop)
    (turn : ∀ n s, I n s → wpAny (model prog w) A (pyNext it) (fun r s1 => match r with
      | none => R (.ok .next) s1
      | some v => wpAny (model prog w) A (letOwnedTupleGo target it v) (fun _ s1' => wpAny (model prog w) A (assign target env v) (fun _ s2 =>
          wpAny (model prog w) A (forIn ifs true fun c r => if r = true then do let ok ← isTrue c env (eval c env); pure (ForInStep.yield ok) else pure (ForInStep.yield r)) (fun ok s3 =>
            if ok = true then wpAny (model prog w) A (eval elt env) (fun x s4 =>
              wpAny (model prog w) A (call (.builtin "list.append") [acc, x]) (fun _ s5 => ∃ m, m < n ∧ I m s5) (fun _ _ => False) s4) (fun _ _ => False) s3
            else ∃ m, m < n ∧ I m s3) (fun _ _ => False) s2) (fun _ _ => False) s1') (fun _ _ => False) s1) (fun _ _ => False) s)
    (n : Nat) (h : I n s) :
    codeAny (model prog w) A (.compLoop (.ListComp elt [⟨target, iter, ifs, 0⟩] scope pos) 0 it acc env) R s := by
  refine codeAny_loop rfl I (fun n s hI => ?_) n h
  show wpAny _ A ((compTurn (.ListComp elt [⟨target, iter, ifs, 0⟩] scope pos) 0 it acc env).onRaise (fun x => do noteFrame x env; theTreesLotGoes x)) _ _ s
  refine wpAny_noted ?_
  rw [compTurn_list]
  refine wpAny_bind (wpAny_standAt (wpAny_bind (wpAny_mono (turn n s hI) (fun r s1 h1 => ?_) fun _ _ h' => h'.elim)))
  cases r with
  | none => exact wpAny_pure h1
  | some v =>
    refine wpAny_bind (wpAny_mono h1 (fun _ s1' h1' => ?_) fun _ _ h' => h'.elim)
    refine wpAny_bind (wpAny_mono h1' (fun _ s2 h2 => wpAny_bind (wpAny_mono h2 (fun ok s3 h3 => ?_) fun _ _ h' => h'.elim)) fun _ _ h' => h'.elim)
    cases ok with
    | false => exact wpAny_pure ⟨rfl, h3⟩
    | true =>
      exact wpAny_bind (wpAny_bind (wpAny_mono h3 (fun x s4 h4 => wpAny_bind (wpAny_mono h4 (fun _ s5 h5 => wpAny_pure (wpAny_pure ⟨rfl, h5⟩)) fun _ _ h' => h'.elim)) fun _ _ h' => h'.elim))
end

/-- the tests of a comprehension -/
def PTs (X : Cx) (ifs : List Expr) (t : TT) : Prop :=
  ∀ (pins : List (Addr × Obj)) (s : Shared) (σ : St) (H : Hp) (Q : Bool → Hp → Prop), Inv X pins σ H s → t σ H Q →
    wpAny (model X.prog X.w) X.A (forIn ifs true fun c r => if r = true then do let ok ← isTrue c X.env (eval c X.env); pure (ForInStep.yield ok) else pure (ForInStep.yield r)) (TP X pins σ Q) X.xe s
def tAll : TT := fun _ H Q => Q true H
theorem pts_nil {X : Cx} : PTs X [] tAll := fun _ _ _ H _ I h => wpAny_tests_nil ⟨H, I, h⟩
theorem pts_one {X : Cx} {c : Expr} {t : TT} (h : PT X c t) : PTs X [c] t := fun pins s σ H Q I q => wpAny_tests_one (h pins s σ H Q I q)

/-- [e for target in iter if c]: W between two turns; the list grows at D; N: what the turn is to reach -/
def CompW (J : It) (g : TG) (tc : TT) (te : TE) (Q : VK) (D : Addr) (σ0 : St) (H1 : Hp) : Prop :=
  ∃ W : Nat → Nat → St → Hp → Prop, (∃ m, W 0 m σ0 (upd H1 D (.lst []))) ∧ ∀ i m σ H, W i m σ H →
    (J.stop i H ∧ Q (.ref D) H) ∨ (J.go i H ∧ ∃ N : St → Hp → Prop, (∀ σ' H', N σ' H' → ∃ m', m' < m ∧ W (i + 1) m' σ' H') ∧ ∀ x H', J.yld i H x H' → g x σ H' fun σ2 H2 => tc σ2 H2 fun b H3 =>
      if b = true then te σ2 H3 fun y H4 => ∃ acc, H4 D = some (.lst acc) ∧ acc.length < sizeLine ∧ N σ2 (upd H4 D (.lst (acc ++ [y]))) else N σ2 H3)
def tComp (own : List Str) (caps : List Nat) (wi : TI) (g : TG) (tc : TT) (te : TE) : TE := fun σ H Q => wi σ H fun J H1 => ∀ D, H1 D = none → CompW J g tc te Q D (st0 own caps σ) H1

section
variable {X : Cx} {elt tg iter : Expr} {ifs : List Expr} {scope : Scope} {pos : Pos} {N own : List Str} {caps : List Nat} {wi : TI} {g : TG} {tc : TT} {te : TE}
/-- the block run: from the iterator to the list -/
theorem comp_run {use : Option (Value → Sem Unit)} {Qv : Value → Shared → Prop} {pins : List (Addr × Obj)} {σ : St} {H : Hp} {s : Shared} {Q : VK} (hc : X.calm = true) (S : CompScope N own caps X.N X.env.scope scope)
    (hg : ∀ C s H fp, PG (cxComp X scope C N s H fp) tg g) (hcs : ∀ C s H fp, PTs (cxComp X scope C N s H fp) ifs tc) (he : ∀ C s H fp, PE (cxComp X scope C N s H fp) elt te)
    (hi : PI X tg iter wi) (hs : ∀ x, foldedSetIterable iter X.env x = pure x)
    (I : Inv X pins σ H s) (h : tComp own caps wi g tc te σ H Q)
    (fin : ∀ (D C : Addr) (H' : Hp) (s' : Shared), (∃ m, s'.heap.Ns C m) → Inv X pins σ H' s' → (∀ h', Heap.SameBut C s'.heap h' → Inv X pins σ H' { s' with heap := h' }) → FpOk X pins H' C → Q (.ref D) H' →
      compPost (model X.prog X.w) X.A X.xe use Qv (.ref D) C (.ok .next) s') :
    wpAny (model X.prog X.w) X.A (comprehension (.ListComp elt [⟨tg, iter, ifs, 0⟩] scope pos) scope X.env (firstIterPos [⟨tg, iter, ifs, 0⟩] pos) (newList []) false (eval iter X.env) use) Qv X.xe s := by
  refine wpAny_comprehension_free (use := use) rfl hs (closure_eq (S.csome I.ok)) S.kind S.names (thn (hi pins s σ H _ I h) fun xv s1 h1 => thn h1 fun itv s2 h2 => ?_)
  obtain ⟨it, fp, tn, J, H2, e, I2, T, st2, f2, q2⟩ := h2
  subst e
  refine wpAny_newList ?_
  refine wpAny_newFunctionEnv S.nocell (by intro y hy; simp at hy) (fun h1 hns1 hsb1 => ?_) S.kind
  dsimp only at hns1 hsb1 ⊢
  have hD : H2 s2.heap.objs.size = none := I2.hok.fresh (Nat.le_refl _)
  have hsz : (s2.heap.push { cls := .type "list", data := .seq ([] : List Value).toArray }).objs.size = s2.heap.objs.size + 1 := Heap.size_push ..
  have old : ∀ b o, s2.heap.get? b = some o → h1.get? b = some o := fun b o e => by
    refine hsb1.extBut b o (Nat.ne_of_lt (by have := natlt (Heap.lt_size e); rw [hsz]; omega)) (Heap.get?_push_of_some _ (Heap.get?_push_of_some _ e))
  have hl : h1.get? s2.heap.objs.size = some { cls := .type "list", data := .seq #[] } :=
    hsb1.extBut _ _ (Nat.ne_of_lt (by rw [hsz]; omega)) (Heap.get?_push_of_some _ (Heap.get?_push_size _ rfl))
  have hfo : ∀ b ∈ fp, ∃ o, s2.heap.get? b = some o := fun b hb => let ⟨o, e, _⟩ := T.obj _ _ st2 b hb; ⟨o, e⟩
  have I4 := Inv.comp (C := (s2.heap.push { cls := .type "list", data := .seq ([] : List Value).toArray }).objs.size) (t := s2.toks + ([] : List (Str × Value)).length) I2 S f2 hfo rfl hsz old hns1 hl
  obtain ⟨W, ⟨m0, w0⟩, turn⟩ := q2 _ hD
  generalize hCe : (s2.heap.push { cls := .type "list", data := .seq ([] : List Value).toArray }).objs.size = C at *
  generalize hDe : s2.heap.objs.size = D at *
  have hDC : D ≠ C := by omega
  -- the loop
  have loop : ∀ s3 : Shared, s3 = { s2 with heap := h1, toks := s2.toks + ([] : List (Str × Value)).length } →
      codeAny (model X.prog X.w) X.A (.compLoop (.ListComp elt [⟨tg, iter, ifs, 0⟩] scope pos) 0 (.ref it) (.ref D) (cxComp X scope C N s2 H2 fp).env) (compPost (model X.prog X.w) X.A X.xe use Qv (.ref D) C) s3 := by
    rintro s3 rfl
    have frz : ∀ b ∈ fp, (upd H2 D (.lst [])) b = none := fun b hb => by
      obtain ⟨o, e⟩ := hfo b hb
      rw [upd_ne (Nat.ne_of_lt (by have := natlt (Heap.lt_size e); omega))]
      exact (f2 b hb).1
    have stat : ∀ {H' : Hp}, (∀ b ∈ fp, H' b = none) → ∀ b ∈ fp, FpOk (cxComp X scope C N s2 H2 fp) [] H' b := fun hn b hb => by
      obtain ⟨o, e⟩ := hfo b hb
      have hlt := natlt (Heap.lt_size e)
      refine ⟨hn b hb, ?_, fun z => ?_, .inl hb, fun x c e' => (f2 b hb).2.2.2.2.1 x c (S.csub I2.ok e'), fun p hp => (by cases hp)⟩
      · exact Nat.ne_of_lt (show @LT.lt Nat _ b C by omega)
      · rcases List.mem_cons.mp (I2.stkSub b z) with q | q
        · exact (f2 b hb).2.1 q
        · exact (f2 b hb).2.2.1 q
    refine compLoop_any (fun n s' => ∃ i σ' H', Inv (cxComp X scope C N s2 H2 fp) [] σ' H' s' ∧ tn i s'.heap ∧ (∀ b ∈ fp, H' b = none) ∧ W i n σ' H') ?_ m0
      ⟨0, _, _, I4, T.keep _ _ _ st2 fun b _ o e => old b o e, frz, w0⟩
    rintro n s3 ⟨i, σ3, H3, I3, st3, fr3, w3⟩
    rcases turn i n σ3 H3 w3 with ⟨stop, qn⟩ | ⟨go, Nx, hNx, step⟩
    · refine thn (T.done (cxComp X scope C N s2 H2 fp) rfl rfl rfl hc i [] s3 σ3 H3 _ I3 (stat fr3) st3 stop) fun r s4 ⟨hr, J4⟩ => ?_
      subst hr
      obtain ⟨m4, hn4, _⟩ := J4.loc
      exact fin D C H3 s4 ⟨m4, hn4⟩ (I2.uncomp f2 (by omega) J4 (Heap.SameBut.refl _ _)) (fun h' hs' => I2.uncomp f2 (by omega) J4 hs') (I2.fpOk (show s2.heap.objs.size ≤ C by omega) J4.free) qn
    · refine thn (T.item (cxComp X scope C N s2 H2 fp) rfl rfl rfl hc i [] s3 σ3 H3 _ I3 (stat fr3) st3 go) fun r s4 ⟨u, hr, h4⟩ => ?_
      subst hr
      refine thn h4 fun _ s5 ⟨x, H5, I5, r5, y5, st5, fr5⟩ => ?_
      have I5' := I5.pinned (stat fr5) (T.obj _ _ st5)
      refine thn (hg C s2 H2 fp _ s5 σ3 H5 x u _ I5' r5 (step x H5 y5)) fun _ s6 ⟨σ6, H6, I6, q6⟩ => ?_
      refine thn (hcs C s2 H2 fp _ s6 σ6 H6 _ I6 q6) fun ok s7 ⟨H7, I7, q7⟩ => ?_
      have again : ∀ {σ8 : St} {H8 : Hp} {s8 : Shared}, Inv (cxComp X scope C N s2 H2 fp) ([] ++ pinsAt fp s5.heap) σ8 H8 s8 → Nx σ8 H8 → ∃ m, m < n ∧ ∃ i σ' H', Inv (cxComp X scope C N s2 H2 fp) [] σ' H' s8 ∧ tn i s8.heap ∧ (∀ b ∈ fp, H' b = none) ∧ W i m σ' H' := fun {σ8 H8 s8} I8 n8 => by
        obtain ⟨m', hm, w8⟩ := hNx _ _ n8
        refine ⟨m', hm, i + 1, σ8, H8, I8.unpinned, T.keep _ _ _ st5 fun b hb o e => (I8.pin (b, o) (List.mem_append_right _ (List.mem_append_right _ (mem_pinsAt hb e)))).1, fun b hb => ?_, w8⟩
        obtain ⟨o, e, d⟩ := T.obj _ _ st5 b hb
        exact (I8.pin (b, o) (List.mem_append_right _ (List.mem_append_right _ (mem_pinsAt hb e)))).2.1
      cases ok with
      | false =>
        rw [if_neg (by decide)] at q7
        exact again I7 q7
      | true =>
        rw [if_pos rfl] at q7
        refine thn (he C s2 H2 fp _ s7 σ6 H7 _ I7 q7) fun y s8 ⟨yv, H8, I8, r8, acc, ha, hlen, q8⟩ => ?_
        exact thn (mt_append _ s8 σ6 H8 (.ref D) [yv] (.ref D) [y] (fun v H9 => Nx σ6 H9) I8 rfl (.cons r8 .nil) ⟨D, acc, yv, rfl, rfl, ha, hlen, q8⟩) fun _ s9 ⟨_, H9, I9, _, q9⟩ => again I9 q9
  exact codeAny_compStart_list (loop _ rfl) (T.self _ 0 _ _ _ (T.keep _ _ _ st2 fun b _ o e => old b o e) (loop _ rfl))

theorem pe_comp (hc : X.calm = true) (S : CompScope N own caps X.N X.env.scope scope) (hi : PI X tg iter wi)
    (hg : ∀ C s H fp, PG (cxComp X scope C N s H fp) tg g) (hcs : ∀ C s H fp, PTs (cxComp X scope C N s H fp) ifs tc) (he : ∀ C s H fp, PE (cxComp X scope C N s H fp) elt te)
    (hs : ∀ x, foldedSetIterable iter X.env x = pure x := by intro _; rfl) : PE X (.ListComp elt [⟨tg, iter, ifs, 0⟩] scope pos) (tComp own caps wi g tc te) := by
  intro pins s σ H Q I h
  rw [eval_ListComp]
  refine comp_run (use := none) hc S hg hcs he hi hs I h ?_
  intro D C H' s' hn I' hk _ q
  obtain ⟨m, hn⟩ := hn
  exact ⟨m, hn, fun h' hs' => ⟨.ref D, H', hk h' hs', rfl, q⟩⟩
/-- x = [e for ..] on one row: the name is stored ahead of the block's names being let go -/
theorem ps_setC {i : Nat} {x : Str} {px sp : Pos} (hc : X.calm = true) (hN : X.N.Nodup) (hx : X.N[i]? = some x) (hl : Loc X.env.scope x) (S : CompScope N own caps X.N X.env.scope scope) (hi : PI X tg iter wi)
    (hg : ∀ C s H fp, PG (cxComp X scope C N s H fp) tg g) (hcs : ∀ C s H fp, PTs (cxComp X scope C N s H fp) ifs tc) (he : ∀ C s H fp, PE (cxComp X scope C N s H fp) elt te)
    (hsw : swapsWith (.ListComp elt [⟨tg, iter, ifs, 0⟩] scope pos) (some (.Name x px)) sp.line X.env = pure true := by rfl)
    (hs : ∀ x, foldedSetIterable iter X.env x = pure x := by intro _; rfl) (hf : X.fn x = true ∨ X.env.scope.names.lookup x = some .local := by first | exact .inl rfl | exact .inr rfl | assumption) :
    PS X (.Assign [.Name x px] (.ListComp elt [⟨tg, iter, ifs, 0⟩] scope pos) sp) (tAsg (tComp own caps wi g tc te) (gName i)) := by
  intro pins s σ H D I h
  rw [exec_Assign_Name_used _ _ _ _ hsw]
  refine wpAny_bind (wpAny_standAt (wpAny_bind ?_))
  show wpAny _ X.A (do let _ ← comprehension (.ListComp elt [⟨tg, iter, ifs, 0⟩] scope pos) scope X.env (firstIterPos [⟨tg, iter, ifs, 0⟩] pos) (newList []) false (eval iter X.env) (some (assign (.Name x px) X.env))) _ _ s
  refine wpAny_bind (wpAny_mono (comp_run (use := some (assign (.Name x px) X.env)) (Qv := fun _ s' => SP X pins D .next s') hc S hg hcs he hi hs I h ?_) (fun _ s' hq => wpAny_pure (wpAny_pure hq)) fun _ _ e => e)
  intro E C H' s' hn I' hk fC q
  obtain ⟨m, hn⟩ := hn
  obtain ⟨f0, f1, f2, f3, f4, f5⟩ := fC
  show wpAny _ X.A (assign (.Name x px) X.env (.ref E)) _ _ _
  refine wpAny_assign_Name (store_ok2 I' hN hx hl (v := .ref E) rfl (fun s2 I2 k => ?_) hf)
  refine ⟨m, ?_, fun h' hs' => ?_⟩
  · obtain ⟨o, es, ep, ho, r⟩ := hn
    obtain ⟨a, ks, ka⟩ := k
    have hCa : C ≠ a := fun z => by
      rcases ka with q' | q'
      · exact f1 (z.trans q')
      · exact f4 x a q' z.symm
    exact ⟨o, es, ep, (ks.2 C hCa).trans ho, r⟩
  · exact ⟨_, H', I2.turned (t' := s2.toks) (fun b o hb e => (hs'.2 b hb).trans e) f0 f1 f3 f4 f5, q⟩
end
/-- the names of a block, checked -/
def compOk (N own : List Str) (caps : List Nat) (XN : List Str) (outer scope : Scope) : Bool :=
  decide (scope.kind = .function) && scope.names.all (fun y => decide (y.2 ≠ .cell)) && scope.names.all (fun y => decide (y.2 ≠ .local) || decide (scope.names.lookup y.1 = some .local)) &&
  scope.names.all (fun y => decide (y.2 ≠ .free) || decide (outer.names.lookup y.1 = some .cell) || decide (outer.names.lookup y.1 = some .free)) && decide N.Nodup && decide (N.length = own.length + caps.length) &&
  (List.range caps.length).all (fun j => match N[own.length + j]? with | some x => decide (XN[caps.getD j 0]? = some x) && decide ((x, NameKind.free) ∈ scope.names) && decide (scope.names.lookup x = some .free) | none => false)
theorem CompScope.of {N own : List Str} {caps : List Nat} {XN : List Str} {outer scope : Scope} (h : compOk N own caps XN outer scope = true) : CompScope N own caps XN outer scope := by
  unfold compOk at h
  simp only [Bool.and_eq_true, decide_eq_true_eq, List.all_eq_true, Bool.or_eq_true] at h
  obtain ⟨⟨⟨⟨⟨⟨h1, h2⟩, h3⟩, h4⟩, h5⟩, h6⟩, h7⟩ := h
  refine ⟨h1, h2, fun y hy e => ?_, fun y hy e => ?_, h5, h6, fun j hj => ?_⟩
  · rcases h3 y hy with z | z
    · exact absurd e z
    · exact z
  · rcases h4 y hy with (z | z) | z
    · exact absurd e z
    · exact .inl z
    · exact .inr z
  · have q := h7 j (List.mem_range.mpr hj)
    cases e : N[own.length + j]? with
    | none => rw [e] at q; cases q
    | some x =>
      rw [e] at q
      simp only [Bool.and_eq_true, decide_eq_true_eq] at q
      exact ⟨q.1.1.symm, x, rfl, q.1.2, q.2⟩
end L2
set_option Elab.async false
set_option linter.all false
set_option maxRecDepth 100000
set_option maxHeartbeats 4000000
namespace L2
open PySem PySem.Spec PyProof.Rows

/-! ### plain data at a heap -/
mutual
def Dat (H : Hp) : V → PyData → Prop
  | v, .none => v = .non
  | v, .bool b => v = .bl b
  | v, .int i => v = .int i
  | v, .str x => v = .str x
  | v, .list ds => ∃ a vs, v = .ref a ∧ H a = some (.lst vs) ∧ Dats H vs ds
  | v, .tuple ds => ∃ a vs, v = .ref a ∧ H a = some (.tup vs) ∧ Dats H vs ds
  | _, .dict _ => False
def Dats (H : Hp) : List V → List PyData → Prop
  | [], [] => True
  | v :: vs, d :: ds => Dat H v d ∧ Dats H vs ds
  | [], _ :: _ => False
  | _ :: _, [] => False
end
section
variable {H H' : Hp}
theorem Dats.length : ∀ {vs : List V} {ds : List PyData}, Dats H vs ds → vs.length = ds.length
  | [], [], _ => rfl
  | _ :: _, _ :: _, h => by simp only [Dats] at h; simp [Dats.length h.2]
  | [], _ :: _, h => by simp only [Dats] at h
  | _ :: _, [], h => by simp only [Dats] at h
theorem Dats.get : ∀ {vs : List V} {ds : List PyData} {i : Nat} {v : V}, Dats H vs ds → vs[i]? = some v → ∃ d, ds[i]? = some d ∧ Dat H v d
  | _ :: _, _ :: _, 0, _, h, e => by simp only [Dats] at h; simp at e; subst e; exact ⟨_, rfl, h.1⟩
  | _ :: _, _ :: _, i + 1, _, h, e => by simp only [Dats] at h; simp at e; obtain ⟨d, q, r⟩ := Dats.get h.2 e; exact ⟨d, by simpa using q, r⟩
  | [], [], _, _, _, e => by simp at e
  | [], _ :: _, _, _, h, _ => by simp only [Dats] at h
  | _ :: _, [], _, _, h, _ => by simp only [Dats] at h
theorem Dats.getD : ∀ {vs : List V} {ds : List PyData} {i : Nat} {d : PyData}, Dats H vs ds → ds[i]? = some d → ∃ v, vs[i]? = some v ∧ Dat H v d
  | _ :: _, _ :: _, 0, _, h, e => by simp only [Dats] at h; simp at e; subst e; exact ⟨_, rfl, h.1⟩
  | _ :: _, _ :: _, i + 1, _, h, e => by simp only [Dats] at h; simp at e; obtain ⟨d, q, r⟩ := Dats.getD h.2 e; exact ⟨d, by simpa using q, r⟩
  | [], [], _, _, _, e => by simp at e
  | [], _ :: _, _, _, h, _ => by simp only [Dats] at h
  | _ :: _, [], _, _, h, _ => by simp only [Dats] at h
theorem Dats.append : ∀ {vs ws : List V} {ds es : List PyData}, Dats H vs ds → Dats H ws es → Dats H (vs ++ ws) (ds ++ es)
  | [], _, [], _, _, g => g
  | _ :: _, _, _ :: _, _, h, g => by simp only [Dats, List.cons_append] at h ⊢; exact ⟨h.1, Dats.append h.2 g⟩
  | [], _, _ :: _, _, h, _ => by simp only [Dats] at h
  | _ :: _, _, [], _, h, _ => by simp only [Dats] at h
theorem Dats.ints (ns : List Int) : Dats H (ns.map V.int) (ns.map PyData.int) := by
  induction ns with
  | nil => simp only [List.map_nil, Dats]
  | cons n r ih => simp only [List.map_cons, Dats, Dat]; exact ⟨trivial, ih⟩
mutual
theorem Dat.mono (hl : ∀ a xs, H a = some (HO.lst xs) → H' a = some (HO.lst xs)) (ht : ∀ a xs, H a = some (HO.tup xs) → H' a = some (HO.tup xs)) : ∀ (d : PyData) {v : V}, Dat H v d → Dat H' v d
  | .none, _, h => by simp only [Dat] at h ⊢; exact h
  | .bool _, _, h => by simp only [Dat] at h ⊢; exact h
  | .int _, _, h => by simp only [Dat] at h ⊢; exact h
  | .str _, _, h => by simp only [Dat] at h ⊢; exact h
  | .list ds, _, h => by simp only [Dat] at h ⊢; obtain ⟨a, vs, e, q, r⟩ := h; exact ⟨a, vs, e, hl _ _ q, Dats.mono hl ht ds r⟩
  | .tuple ds, _, h => by simp only [Dat] at h ⊢; obtain ⟨a, vs, e, q, r⟩ := h; exact ⟨a, vs, e, ht _ _ q, Dats.mono hl ht ds r⟩
  | .dict _, _, h => by simp only [Dat] at h
theorem Dats.mono (hl : ∀ a xs, H a = some (HO.lst xs) → H' a = some (HO.lst xs)) (ht : ∀ a xs, H a = some (HO.tup xs) → H' a = some (HO.tup xs)) : ∀ (ds : List PyData) {vs : List V}, Dats H vs ds → Dats H' vs ds
  | [], [], _ => by simp only [Dats]
  | d :: ds, v :: vs, h => by simp only [Dats] at h ⊢; exact ⟨Dat.mono hl ht d h.1, Dats.mono hl ht ds h.2⟩
  | _ :: _, [], h => by simp only [Dats] at h
  | [], _ :: _, h => by simp only [Dats] at h
end
mutual
/-- no list within -/
def imm : PyData → Bool
  | .tuple ds => imms ds
  | .list _ | .dict _ => false
  | .none | .bool _ | .int _ | .str _ => true
def imms : List PyData → Bool
  | [] => true
  | d :: ds => imm d && imms ds
end
mutual
theorem Dat.keep (ht : ∀ a xs, H a = some (HO.tup xs) → H' a = some (HO.tup xs)) : ∀ (d : PyData) {v : V}, imm d = true → Dat H v d → Dat H' v d
  | .none, _, _, h => by simp only [Dat] at h ⊢; exact h
  | .bool _, _, _, h => by simp only [Dat] at h ⊢; exact h
  | .int _, _, _, h => by simp only [Dat] at h ⊢; exact h
  | .str _, _, _, h => by simp only [Dat] at h ⊢; exact h
  | .list ds, _, i, h => by simp only [imm] at i; cases i
  | .tuple ds, _, i, h => by simp only [Dat] at h ⊢; simp only [imm] at i; obtain ⟨a, vs, e, q, r⟩ := h; exact ⟨a, vs, e, ht _ _ q, Dats.keep ht ds i r⟩
  | .dict _, _, _, h => by simp only [Dat] at h
theorem Dats.keep (ht : ∀ a xs, H a = some (HO.tup xs) → H' a = some (HO.tup xs)) : ∀ (ds : List PyData) {vs : List V}, imms ds = true → Dats H vs ds → Dats H' vs ds
  | [], [], _, _ => by simp only [Dats]
  | d :: ds, v :: vs, i, h => by simp only [Dats] at h ⊢; simp only [imms, Bool.and_eq_true] at i; exact ⟨Dat.keep ht d i.1 h.1, Dats.keep ht ds i.2 h.2⟩
  | _ :: _, [], _, h => by simp only [Dats] at h
  | [], _ :: _, _, h => by simp only [Dats] at h
end
theorem imms_map {α : Type} (f : α → PyData) (h : ∀ x, imm (f x) = true) : ∀ l : List α, imms (l.map f) = true
  | [] => rfl
  | a :: l => by simp only [List.map_cons, imms, h a, imms_map f h l, Bool.and_self]
end

section
variable {X : Cx} {pins : List (Addr × Obj)} {σ : St} {H : Hp} {s : Shared}
mutual
theorem Inv.reads (I : Inv X pins σ H s) : ∀ (d : PyData) {v : V} {u : Value}, Dat H v d → RelV v u → ∃ as, Reads s.heap u d as
  | .none, v, u, h, r => by
    simp only [Dat] at h; subst h; cases (show u = Value.none from r); exact ⟨_, .none⟩
  | .bool b, v, u, h, r => by
    simp only [Dat] at h; subst h; cases (show u = Value.bool b from r); exact ⟨_, .bool b⟩
  | .int i, v, u, h, r => by
    simp only [Dat] at h; subst h; obtain ⟨t, q⟩ := (show ∃ t, u = Value.int i t from r); cases q; exact ⟨_, .int i t⟩
  | .str x, v, u, h, r => by
    simp only [Dat] at h; subst h; obtain ⟨t, q⟩ := (show ∃ t, u = Value.str x t from r); cases q; exact ⟨_, .str x t⟩
  | .list ds, v, u, h, r => by
    simp only [Dat] at h
    obtain ⟨a, vs, rfl, q, g⟩ := h
    cases (show u = Value.ref a from r)
    obtain ⟨its, rv, p, hz⟩ := I.list (SqL.of q)
    obtain ⟨o, ho, hc, n, hd⟩ := p.isList
    obtain ⟨as, ra⟩ := Inv.readsAll I ds g rv
    exact ⟨_, .list ho hc hd (by simpa using ra)⟩
  | .tuple ds, v, u, h, r => by
    simp only [Dat] at h
    obtain ⟨a, vs, rfl, q, g⟩ := h
    cases (show u = Value.ref a from r)
    obtain ⟨its, rv, p, hz⟩ := I.tuple (SqT.of q)
    obtain ⟨o, ho, hc, n, hd⟩ := p
    obtain ⟨as, ra⟩ := Inv.readsAll I ds g rv
    exact ⟨_, .tuple ho hc hd (by simpa using ra)⟩
  | .dict _, _, _, h, _ => by simp only [Dat] at h
theorem Inv.readsAll (I : Inv X pins σ H s) : ∀ (ds : List PyData) {vs : List V} {us : List Value}, Dats H vs ds → Vals vs us → ∃ as, ReadsAll s.heap us ds as
  | [], [], _, _, .nil => ⟨_, .nil⟩
  | d :: ds, v :: vs, _, h, .cons r rs => by
    simp only [Dats] at h
    obtain ⟨as, ra⟩ := Inv.reads I d h.1 r
    obtain ⟨bs, rb⟩ := Inv.readsAll I ds h.2 rs
    exact ⟨_, .cons ra rb⟩
  | _ :: _, [], _, h, _ => by simp only [Dats] at h
  | [], _ :: _, _, h, _ => by simp only [Dats] at h
end
/-- == and != of data -/
def rEqD (neg : Bool) : R2 := fun x y H Q => ∃ d e, Dat H x d ∧ Dat H y e ∧ SeqAt.shaped d = true ∧ SeqAt.shaped e = true ∧ Q (.bl (if neg then !PyData.eqv d e else PyData.eqv d e)) H
theorem op_eqD (hu : X.A.units + 64 < cLine) : OpR X (compareOp .Eq) (rEqD false) := by
  intro pins s σ H x y v u Q I rx ry h
  obtain ⟨d, e, h1, h2, s1, s2, q⟩ := h
  obtain ⟨as, ra⟩ := I.reads d h1 rx
  obtain ⟨bs, rb⟩ := I.reads e h2 ry
  exact SeqAt.compareEq_shaped ra rb s1 s2 hu ⟨.bl _, H, I, rfl, q⟩
theorem op_neD (hu : X.A.units + 64 < cLine) : OpR X (compareOp .NotEq) (rEqD true) := by
  intro pins s σ H x y v u Q I rx ry h
  obtain ⟨d, e, h1, h2, s1, s2, q⟩ := h
  obtain ⟨as, ra⟩ := I.reads d h1 rx
  obtain ⟨bs, rb⟩ := I.reads e h2 ry
  exact SeqAt.compareNe_shaped ra rb s1 s2 hu ⟨.bl _, H, I, rfl, q⟩

/-! ### isinstance -/
/-- isinstance(x, c): c's value is known -/
theorem call_isi {c : Value} {cv : V} (rc : RelV cv c) : CallR X (.builtin "isinstance") (fun xs H Q => ∃ x t b, xs = [x, cv] ∧ TyOf X.K H x t ∧ PySem.W.kitOne X.K t c = some b ∧ Q (.bl b) H) := by
  intro pins s σ H xs us Q I r h
  obtain ⟨x, t, b, rfl, ty, e, q⟩ := h
  obtain ⟨u, w', rfl, r1, r2⟩ := vals2 r
  have : w' = c := by
    cases cv with
    | non => exact (show w' = Value.none from r2).trans (show c = Value.none from rc).symm
    | bl b => exact (show w' = Value.bool b from r2).trans (show c = Value.bool b from rc).symm
    | ref a => exact (show w' = Value.ref a from r2).trans (show c = Value.ref a from rc).symm
    | ty n => exact (show w' = Value.type n from r2).trans (show c = Value.type n from rc).symm
    | int i => obtain ⟨t1, rfl⟩ := (show ∃ t, c = Value.int i t from rc); unfold PySem.W.kitOne at e; exact absurd e (by cases ty <;> simp [PySem.W.kitCls])
    | str i => obtain ⟨t1, rfl⟩ := (show ∃ t, c = Value.str i t from rc); unfold PySem.W.kitOne at e; exact absurd e (by cases ty <;> simp [PySem.W.kitCls])
    | byt i => obtain ⟨t1, rfl⟩ := (show ∃ t, c = Value.bytes i t from rc); unfold PySem.W.kitOne at e; exact absurd e (by cases ty <;> simp [PySem.W.kitCls])
    | flt i => obtain ⟨t1, rfl⟩ := (show ∃ t, c = Value.float i t from rc); unfold PySem.W.kitOne at e; exact absurd e (by cases ty <;> simp [PySem.W.kitCls])
  subst this
  exact isinst_ok I r1 ty e fun tk => ⟨.bl b, H, I.tok _, rfl, q⟩
end

/-! ### all, any over a list of bools -/
section
variable {prog : Program} {w : World} {A : Around}
theorem walks_list (hh : A.handled = none) (it a : Addr) (hne : it ≠ a) (its : List Value) : Walks prog w A it [it, a] [it] its.length (fun i v => its[i]? = some v) (fun i h => h.IsListIter it a i ∧ h.IsList a its.toArray) where
  sub := by simp
  frame := fun i h h' ⟨s1, o, ho, hc⟩ k => ⟨s1.at fun o e => k it (by simp) o e, o, k a (by simp) o ho, hc⟩
  item := fun i s Q E hi ⟨s1, s2⟩ hQ => wpAny_pyNext_list_item s1 s2 (x := its[i]) (by simp [hi]) fun h' st' sb =>
    hQ _ h' s.toks (by simp [hi]) ⟨st', s2.extBut sb.extBut hne.symm⟩ fun b o hb e => (sb.2 b (by simpa using hb)).trans e
  done := fun s Q E ⟨s1, s2⟩ hQ => wpAny_pyNext_list_end hh s1 s2 (by simp) fun h' eb => hQ h' s.toks fun b o hb e => eb b o (by simpa using hb) e
  self := fun i s Q E ⟨s1, _⟩ hQ => wpAny_pyIter_listiter s1 hQ
end
section
variable {X : Cx}
theorem range_all_get (bs : List Bool) : (List.range bs.length).all (fun i => (bs[i]?).getD false) = bs.all id := by
  rw [Bool.eq_iff_iff, List.all_eq_true, List.all_eq_true]
  constructor
  · intro h b hb
    obtain ⟨i, hi, rfl⟩ := List.getElem_of_mem hb
    have := h i (by simpa using hi)
    simpa [hi] using this
  · intro h i hi
    have hi' : i < bs.length := by simpa using hi
    simpa [hi'] using h bs[i] (List.getElem_mem hi')
theorem vals_bools {bs : List Bool} : ∀ {us : List Value}, Vals (bs.map V.bl) us → us = bs.map Value.bool := by
  induction bs with
  | nil => intro us r; cases r; rfl
  | cons b bs ih =>
    intro us r
    cases r with
    | cons r rs => cases (show _ = Value.bool b from r); rw [ih rs]; rfl
theorem call_all_bools (hc : X.calm = true) : CallR X (.builtin "all") (fun xs H Q => ∃ (p : Addr) (bs : List Bool), xs = [.ref p] ∧ SqL X.K H p (bs.map V.bl) ∧ Q (.bl (bs.all id)) H) := by
  intro pins s σ H xs us Q I r h
  obtain ⟨p, bs, rfl, hq, q⟩ := h
  obtain ⟨u, rfl, rx⟩ := vals1 r
  cases rx
  obtain ⟨its, rv, pl, hz⟩ := I.list hq
  have e := vals_bools rv
  have hlen : its.length = bs.length := by rw [e, List.length_map]
  refine call_all_walk (wpAny_pyIter_list pl.isList ⟨s.heap.objs.size, [s.heap.objs.size, p], [s.heap.objs.size], its.length, _, _, fun i => (bs[i]?).getD false, rfl,
    walks_list (show X.A.in1.handled = none from I.ok.hd hc) s.heap.objs.size p ?_ its, ⟨⟨_, Heap.get?_push_size _ rfl, rfl, rfl⟩, ?_⟩, ?_, ?_⟩)
  · intro z
    obtain ⟨o, ho, _⟩ := pl.isList
    have := Heap.lt_size ho
    rw [← z] at this
    exact Nat.lt_irrefl _ this
  · obtain ⟨o, ho, hcl⟩ := pl.isList
    exact ⟨o, Heap.get?_push_of_some _ ho, hcl⟩
  · intro i v s1 Q1 E1 hP hQ
    rw [e, List.getElem?_map] at hP
    cases r : bs[i]? with
    | none => rw [r] at hP; cases hP
    | some b =>
      rw [r] at hP
      cases hP
      simp only [r, Option.getD_some] at hQ
      exact wpAny_truthy_bool hQ
  · intro h' tk k
    rw [hlen, range_all_get]
    have f := I.fpOk (H' := H) (b := s.heap.objs.size) (Nat.le_refl _) (I.hok.fresh (Nat.le_refl _))
    have I2 : Inv X pins σ H { s with heap := h', toks := tk } := I.turned (h' := h') (t' := tk) (it := s.heap.objs.size) (fun b o hb e => k b o (by simpa using hb) (Heap.get?_push_of_some _ e)) f.1 f.2.1 f.2.2.2.1 f.2.2.2.2.1 f.2.2.2.2.2
    exact ⟨.bl _, H, I2, rfl, q⟩
end
end L2
set_option Elab.async false
set_option linter.all false
set_option maxRecDepth 100000
set_option maxHeartbeats 4000000
namespace L2
open PySem PySem.Spec PyProof.Rows

/-! ### a def of the text, called by its name; no exception leaves it -/
def FnAt (P : Program) (w : World) (K : PySem.W.Frag) (mg : Str → Option Value) (base : Heap) (k : Nat) (x : Str) (ps : List Str) (sp : Sp) : Prop :=
  ∃ f fd, FnOk P w K mg base CX0 k f fd ps sp ∧ mg x = some (.ref f) ∧ PySem.W.keepIn K (.ref f) = true ∧ Binds K fd ps []
section
variable {X : Cx} {k j : Nat} {x : Str} {ps : List Str} {sp : Sp} {e : Expr} {es : List Expr} {t : TA} {p pos : Pos}
theorem pe_fn (F : FnAt X.prog X.w X.K X.mg X.base k x ps sp) (hr : Room k X.A) (hg : Gl X x) (ha : PA X (e :: es) t) (hd : (x == ("__debug__" : Str)) = false := by decide)
    (he : starEach (e :: es) X.env = (false, eval e X.env) :: starEach es X.env := by rfl) (hpl : (backTo pos (starEach es X.env)).any (·.1) = false := by rfl) :
    PE X (.Call (.Name x p) (e :: es) [] pos) (tCall sp [] E0 t) := by
  obtain ⟨f, fd, G, hm, hk, hb⟩ := F
  exact pe_call G hr hg hm hk hb .nil pass0 ha (hdb := hd) (he := he) (hpl := hpl)
end

/-! ### what the built-in names are -/
theorem bt_abs : bootBuiltins "abs" = some (.builtin "abs") := by kernel_rfl
theorem bt_all : bootBuiltins "all" = some (.builtin "all") := by kernel_rfl
theorem bt_len : bootBuiltins "len" = some (.builtin "len") := by kernel_rfl
theorem bt_min : bootBuiltins "min" = some (.builtin "min") := by kernel_rfl
theorem bt_max : bootBuiltins "max" = some (.builtin "max") := by kernel_rfl
theorem bt_isinstance : bootBuiltins "isinstance" = some (.builtin "isinstance") := by kernel_rfl
theorem bt_int : bootBuiltins "int" = some (.type "int") := by kernel_rfl
theorem bt_bool : bootBuiltins "bool" = some (.type "bool") := by kernel_rfl
theorem bt_list : bootBuiltins "list" = some (.type "list") := by kernel_rfl
theorem bt_tuple : bootBuiltins "tuple" = some (.type "tuple") := by kernel_rfl
/-! ### a product whose size fits -/
section
variable {X : Cx}
theorem op_mulB : OpR X (binaryOp .Mult) (rI IntMulOk fun i j => .int (i * j)) := opI fun _ _ _ _ _ _ _ hc q => mul_int q hc
end

/-! ### heaps: what stays -/
/-- all stays but what stands at r -/
def Kp (r : Addr) (H H' : Hp) : Prop := ∀ b o, H b = some o → b ≠ r → H' b = some o
theorem Kp.of_same {r : Addr} {H H' : Hp} (h : Same H H') : Kp r H H' := fun b o e _ => h b o e
theorem Kp.trans {r : Addr} {H H1 H2 : Hp} (a : Kp r H H1) (b : Kp r H1 H2) : Kp r H H2 := fun c o h n => b c o (a c o h n) n
theorem Kp.refl (r : Addr) (H : Hp) : Kp r H H := fun _ _ h _ => h
theorem Kp.set {r : Addr} {H : Hp} {o : HO} : Kp r H (upd H r o) := fun b u e n => by rw [upd_ne n]; exact e
theorem same_new {H : Hp} {p : Addr} {o : HO} (h : H p = none) : Same H (upd H p o) := fun b u e => by rw [upd_ne (ne_of_none e h)]; exact e
theorem Same.tups {H H' : Hp} (e : Same H H') : ∀ a xs, H a = some (HO.tup xs) → H' a = some (HO.tup xs) := fun a xs h => e _ _ h
theorem Same.sqL {K : PySem.W.Frag} {H H' : Hp} (e : Same H H') : ∀ a xs, SqL K H a xs → SqL K H' a xs := fun a xs h => e.seq h
/-- a list at r: tuples are elsewhere -/
theorem Kp.tups {H H' : Hp} {r : Addr} {ys : List V} (e : Kp r H H') (hr : H r = some (.lst ys)) : ∀ a xs, H a = some (HO.tup xs) → H' a = some (HO.tup xs) := fun a xs h => e _ _ h (ne_of h hr (by intro z; cases z))
theorem Kp.tups' {H H' : Hp} {r : Addr} {kvs : List (Key × V)} (e : Kp r H H') (hr : H r = some (.dK kvs)) : ∀ a xs, H a = some (HO.tup xs) → H' a = some (HO.tup xs) := fun a xs h => e _ _ h (ne_of h hr (by intro z; cases z))
end L2

/-! ### the rules over K itself (a block's context has the same K) -/
namespace L2
open PySem PySem.Spec PyProof.Rows
section
variable {X : Cx} {K : PySem.W.Frag}
theorem ix_listK (h : X.K = K) : IxR X (rIxL K) := by subst h; exact ix_list
theorem ix_tupK (h : X.K = K) : IxR X (rIxT K) := by subst h; exact ix_tup
theorem sl_listK (h : X.K = K) : SlR X (rSlL K) := by subst h; exact sl_list
theorem sl_tupK (h : X.K = K) : SlR X (rSlT K) := by subst h; exact sl_tup
def rLen (K : PySem.W.Frag) : List V → Hp → VK → Prop := fun xs H Q => ∃ (p : Addr) (ys : List V), xs = [.ref p] ∧ (SqL K H p ys ∨ SqT K H p ys) ∧ Q (.int ys.length) H
theorem call_len_seqK (h : X.K = K) : CallR X (.builtin "len") (rLen K) := by subst h; exact call_len_seq
def rListOf (K : PySem.W.Frag) : List V → Hp → VK → Prop := fun xs H Q => ∃ (p : Addr) (ys : List V), xs = [.ref p] ∧ (SqL K H p ys ∨ SqT K H p ys) ∧ ∀ l, H l = none → Q (.ref l) (upd H l (.lst ys))
theorem call_list_ofK (h : X.K = K) : CallR X (.type "list") (rListOf K) := by subst h; exact call_list_of
def rAllB (K : PySem.W.Frag) : List V → Hp → VK → Prop := fun xs H Q => ∃ (p : Addr) (bs : List Bool), xs = [.ref p] ∧ SqL K H p (bs.map V.bl) ∧ Q (.bl (bs.all id)) H
theorem call_all_boolsK (h : X.K = K) (hc : X.calm = true) : CallR X (.builtin "all") (rAllB K) := by subst h; exact call_all_bools hc
theorem op_eqDK (h : X.K = K) (hu : X.A.units + 64 < cLine) : OpR X (compareOp .Eq) (rEqD false) := by subst h; exact op_eqD hu
theorem op_neDK (h : X.K = K) (hu : X.A.units + 64 < cLine) : OpR X (compareOp .NotEq) (rEqD true) := by subst h; exact op_neD hu
theorem pi_listK {tg l : Expr} {tl : TE} (h : X.K = K) (hl : PE X l tl) : PI X tg l (iList K tl) := by subst h; exact pi_list hl
theorem pi_tupK {tg l : Expr} {tl : TE} (h : X.K = K) (hl : PE X l tl) : PI X tg l (iTup K tl) := by subst h; exact pi_tup hl
def rIsi (K : PySem.W.Frag) (c : Value) (cv : V) : List V → Hp → VK → Prop := fun xs H Q => ∃ x t b, xs = [x, cv] ∧ TyOf K H x t ∧ PySem.W.kitOne K t c = some b ∧ Q (.bl b) H
theorem call_isiK {c : Value} {cv : V} (h : X.K = K) (rc : RelV cv c) : CallR X (.builtin "isinstance") (rIsi K c cv) := by subst h; exact call_isi rc
theorem pe_appendK {o e : Expr} {to : TE} {t : TA} {apos cpos : Pos} (h : X.K = K) (ho : PE X o to) (ha : PA X [e] t)
    (hbase : attributeBase o "append" X.env (eval o X.env) = eval o X.env := by rfl)
    (hfew : ((backTo cpos (starEach [e] X.env)).all (fun x => !x.1) && (backToKw cpos (keywordEach [] X.env)).all (fun x => x.1.isSome)
      && decide (([e] : List Expr).length + ([] : List Keyword).length + (if ([] : List Keyword).isEmpty then 0 else 1) < 30)) = true := by rfl)
    (hline : (apos.endLine == cpos.line) = true := by rfl) (hs : starEach [e] X.env = (false, eval e X.env) :: starEach [] X.env := by rfl) (hplain : (backTo cpos (starEach [] X.env)).any (·.1) = false := by rfl) :
    PE X (.Call (.Attribute o "append" apos) [e] [] cpos) (tBM K "list" rAppend to t) := by
  subst h
  exact pe_bm PySem.F.plainAttrs_list PySem.F.slot_list_append PySem.F.type_list_append mt_append ho ha hbase hfew hline hs hplain
end
end L2
namespace L2
open PySem
/-! ### comprehensions by their invariant -/
section
variable {K : PySem.W.Frag} {a D : Addr} {xs : List V} {g : TG} {tc : TT} {te : TE} {Q : VK} {σ0 : St} {H1 : Hp}
/-- over a list that the block leaves as it is -/
theorem comp_list (Pv : Nat → St → Hp → Prop) (h0 : Pv 0 σ0 (upd H1 D (.lst []))) (hl : ∀ i σ H, i ≤ xs.length → Pv i σ H → SqL K H a xs)
    (hs : ∀ i x σ H, xs[i]? = some x → Pv i σ H → g x σ H fun σ2 H2 => tc σ2 H2 fun b H3 =>
      if b = true then te σ2 H3 fun y H4 => ∃ acc, H4 D = some (.lst acc) ∧ acc.length < sizeLine ∧ Pv (i + 1) σ2 (upd H4 D (.lst (acc ++ [y]))) else Pv (i + 1) σ2 H3)
    (hd : ∀ σ H, Pv xs.length σ H → Q (.ref D) H) : CompW (Itl K a) g tc te Q D σ0 H1 := by
  refine ⟨fun i m σ H => m = xs.length - i ∧ i ≤ xs.length ∧ Pv i σ H, ⟨xs.length, by simp, Nat.zero_le _, h0⟩, ?_⟩
  rintro i m σ H ⟨rfl, hi, p⟩
  have q := hl i σ H hi p
  by_cases hlt : i < xs.length
  · refine .inr ⟨⟨xs, xs[i], q, by simp [hlt]⟩, Pv (i + 1), fun σ' H' p' => ⟨xs.length - (i + 1), by omega, rfl, hlt, p'⟩, fun x H' y => ?_⟩
    obtain ⟨e, y⟩ := y
    subst e
    exact hs i x σ _ (y xs q) p
  · have e : i = xs.length := by omega
    subst e
    exact .inl ⟨⟨xs, q, Nat.le_refl _⟩, hd σ H p⟩
theorem comp_tup (Pv : Nat → St → Hp → Prop) (h0 : Pv 0 σ0 (upd H1 D (.lst []))) (hl : ∀ i σ H, i ≤ xs.length → Pv i σ H → SqT K H a xs)
    (hs : ∀ i x σ H, xs[i]? = some x → Pv i σ H → g x σ H fun σ2 H2 => tc σ2 H2 fun b H3 =>
      if b = true then te σ2 H3 fun y H4 => ∃ acc, H4 D = some (.lst acc) ∧ acc.length < sizeLine ∧ Pv (i + 1) σ2 (upd H4 D (.lst (acc ++ [y]))) else Pv (i + 1) σ2 H3)
    (hd : ∀ σ H, Pv xs.length σ H → Q (.ref D) H) : CompW (Itt K a) g tc te Q D σ0 H1 := by
  refine ⟨fun i m σ H => m = xs.length - i ∧ i ≤ xs.length ∧ Pv i σ H, ⟨xs.length, by simp, Nat.zero_le _, h0⟩, ?_⟩
  rintro i m σ H ⟨rfl, hi, p⟩
  have q := hl i σ H hi p
  by_cases hlt : i < xs.length
  · refine .inr ⟨⟨xs, xs[i], q, by simp [hlt]⟩, Pv (i + 1), fun σ' H' p' => ⟨xs.length - (i + 1), by omega, rfl, hlt, p'⟩, fun x H' y => ?_⟩
    obtain ⟨e, y⟩ := y
    subst e
    exact hs i x σ _ (y xs q) p
  · have e : i = xs.length := by omega
    subst e
    exact .inl ⟨⟨xs, q, Nat.le_refl _⟩, hd σ H p⟩
theorem comp_range {lo : Int} {n : Nat} (Pv : Nat → St → Hp → Prop) (h0 : Pv 0 σ0 (upd H1 D (.lst [])))
    (hs : ∀ i σ H, i < n → Pv i σ H → g (.int (lo + i)) σ H fun σ2 H2 => tc σ2 H2 fun b H3 =>
      if b = true then te σ2 H3 fun y H4 => ∃ acc, H4 D = some (.lst acc) ∧ acc.length < sizeLine ∧ Pv (i + 1) σ2 (upd H4 D (.lst (acc ++ [y]))) else Pv (i + 1) σ2 H3)
    (hd : ∀ σ H, Pv n σ H → Q (.ref D) H) : CompW (Itr lo n) g tc te Q D σ0 H1 := by
  refine ⟨fun i m σ H => m = n - i ∧ i ≤ n ∧ Pv i σ H, ⟨n, by simp, Nat.zero_le _, h0⟩, ?_⟩
  rintro i m σ H ⟨rfl, hi, p⟩
  by_cases hlt : i < n
  · refine .inr ⟨hlt, Pv (i + 1), fun σ' H' p' => ⟨n - (i + 1), by omega, rfl, hlt, p'⟩, fun x H' y => ?_⟩
    obtain ⟨e, y⟩ := y
    subst e y
    exact hs i σ _ hlt p
  · have e : i = n := by omega
    subst e
    exact .inl ⟨Nat.le_refl _, hd σ H p⟩
end
end L2
set_option Elab.async false
set_option linter.all false
set_option maxRecDepth 100000
set_option maxHeartbeats 4000000
namespace L2
open PySem PySem.Spec PyProof.Rows
/-! ### lists of data: shape and equality -/
section
variable {α : Type} (f : α → PyData)
theorem canAll_map : ∀ (l : List α), (∀ x ∈ l, (f x).canLay0 = true) → PyData.canLayAll0 (l.map f) = true
  | [], _ => rfl
  | a :: l, h => by
    show (PyData.canLay0 (f a) && PyData.canLayAll0 (l.map f)) = true
    rw [h a List.mem_cons_self, canAll_map l fun x hx => h x (List.mem_cons_of_mem _ hx)]; rfl
theorem depthAll_map (k : Nat) : ∀ (l : List α), (∀ x ∈ l, (f x).depth ≤ k) → PyData.depthAll (l.map f) ≤ k
  | [], _ => Nat.zero_le _
  | a :: l, h => by
    show max (PyData.depth (f a)) (PyData.depthAll (l.map f)) ≤ k
    exact Nat.max_le.mpr ⟨h a List.mem_cons_self, depthAll_map k l fun x hx => h x (List.mem_cons_of_mem _ hx)⟩
theorem shaped_list {l : List α} (k : Nat) (hk : k < 64) (h1 : ∀ x ∈ l, (f x).canLay0 = true) (h2 : ∀ x ∈ l, (f x).depth ≤ k) : SeqAt.shaped (.list (l.map f)) = true := by
  unfold SeqAt.shaped
  have e1 : PyData.canLay0 (.list (l.map f)) = true := canAll_map f l h1
  have e2 : PyData.depth (.list (l.map f)) ≤ 64 := by
    show PyData.depthAll (l.map f) + 1 ≤ 64
    have := depthAll_map f k l h2
    omega
  rw [e1, decide_eq_true e2]; rfl
theorem eqvAll_map [DecidableEq α] (h : ∀ x y, PyData.eqv (f x) (f y) = decide (x = y)) : ∀ (l m : List α), PyData.eqvAll (l.map f) (m.map f) = decide (l = m)
  | [], [] => rfl
  | [], _ :: _ => by simp only [List.map_nil, List.map_cons, PyData.eqvAll]; exact (decide_eq_false (by intro z; cases z)).symm
  | _ :: _, [] => by simp only [List.map_nil, List.map_cons, PyData.eqvAll]; exact (decide_eq_false (by intro z; cases z)).symm
  | a :: l, b :: m => by
    simp only [List.map_cons, PyData.eqvAll]
    rw [h a b, eqvAll_map h l m]
    by_cases e1 : a = b
    · subst e1
      by_cases e2 : l = m
      · subst e2; simp
      · simp [e2]
    · simp [e1]
theorem eqv_list [DecidableEq α] (h : ∀ x y, PyData.eqv (f x) (f y) = decide (x = y)) (l m : List α) : PyData.eqv (.list (l.map f)) (.list (m.map f)) = decide (l = m) := by
  simp only [PyData.eqv]; exact eqvAll_map f h l m
end
theorem dat_list {H : Hp} {a : Addr} {vs : List V} {ds : List PyData} (h : H a = some (.lst vs)) (d : Dats H vs ds) : Dat H (.ref a) (.list ds) := by
  simp only [Dat]
  exact ⟨a, vs, rfl, h, d⟩
theorem isi_int_int (K : PySem.W.Frag) : PySem.W.kitOne K (.type "int") (.type "int") = some true := rfl
theorem isi_int_bool (K : PySem.W.Frag) : PySem.W.kitOne K (.type "int") (.type "bool") = some false := by kernel_rfl
theorem isi_tuple_tuple (K : PySem.W.Frag) : PySem.W.kitOne K (.type "tuple") (.type "tuple") = some true := rfl
theorem isi_bool_bool (K : PySem.W.Frag) : PySem.W.kitOne K (.type "bool") (.type "bool") = some true := rfl
end L2
namespace L2
open PySem
theorem cut_take (xs : List V) (k : Nat) : cutV xs none (some (k : Int)) = xs.take k := by
  unfold cutV
  rw [HT.sIx_none, HT.sIx_nat, List.drop_zero, Nat.sub_zero]
  by_cases h : k ≤ xs.length
  · rw [Nat.min_eq_left h]
  · rw [Nat.min_eq_right (by omega), List.take_of_length_le (Nat.le_refl _), List.take_of_length_le (by omega)]
theorem cut_drop (xs : List V) (k : Nat) : cutV xs (some (k : Int)) none = xs.drop k := by
  unfold cutV
  rw [HT.sIx_none, HT.sIx_nat]
  by_cases h : k ≤ xs.length
  · rw [Nat.min_eq_left h, List.take_of_length_le (by rw [List.length_drop]; exact Nat.le_refl _)]
  · rw [Nat.min_eq_right (by omega), Nat.sub_self, List.take_zero, List.drop_of_length_le (by omega)]
end L2
set_option Elab.async false
set_option linter.all false
set_option maxRecDepth 100000
set_option maxHeartbeats 4000000
namespace PySem.W
open PySem PySem.Spec PySem.Calls PyProof.Rows
section
variable {prog : Program} {w : World} {A : Around} {E : Value → Shared → Prop} {s : Shared} {K : Frag} {x D : Addr} {ox : Obj} {odo : Option Obj} {name : Str}
end
end PySem.W
set_option Elab.async false
set_option linter.all false
set_option maxRecDepth 100000
set_option maxHeartbeats 4000000
namespace L2
open PySem PySem.Spec PyProof.Rows

/-! ### an exception and its record -/
section
variable {M : Model} {A : Around} {E : Value → Shared → Prop} {s : Shared} {base : Heap} {env : Env} {outer : List Env} {L e : Addr}
end

section
variable {X : Cx} {pins : List (Addr × Obj)} {σ : St} {H : Hp} {s : Shared} {e : Addr}
end
end L2
set_option Elab.async false
set_option linter.all false
set_option maxRecDepth 100000
set_option maxHeartbeats 4000000
namespace L2
open PySem PySem.Spec PyProof.Rows

/-! ### calls that may raise -/
section
variable {X : Cx} {k : Nat} {x : Str} {ps : List Str} {sp : Sp} {e : Expr} {es : List Expr} {t : TA} {p pos : Pos} {E : St → XK}
end
section
variable {P : Program} {w : World} {K : PySem.W.Frag} {mg : Str → Option Value} {base : Heap}
end

/-! ### raise C(..), C an own class without an __init__ -/
section
variable {X : Cx} {E : St → XK} {x : Str} {C : Addr} {B newId initId : String} {bmB : List Value} {e0 : Expr} {rest : List Expr} {ta : TA} {np cpos pos : Pos}
end

/-! ### try: .. except C as n: .. -/
section
variable {X : Cx} {pins : List (Addr × Obj)} {σ : St} {H : Hp} {s : Shared}
end

section
variable {M : Model} {A : Around} {Er : Value → Shared → Prop} {s : Shared} {K : PySem.W.Frag} {e C D : Addr}
end
end L2
set_option Elab.async false
set_option linter.all false
set_option maxRecDepth 100000
set_option maxHeartbeats 4000000
namespace L2
open PySem PySem.Spec PyProof.Rows
section
variable {X : Cx} {pins : List (Addr × Obj)} {σ : St} {H : Hp} {s : Shared}
end

section
variable {X : Cx} {body suite : List Stmt} {b0 : Stmt} {n cn : Str} {i : Nat} {Dc : Addr} {tb : (St → XK) → TS} {th : TS} {cp hpos pos : Pos}
end

/-! ### isinstance of a caught exception -/
section
variable {X : Cx} {K : PySem.W.Frag}
theorem vals_refs {cs : List Addr} : ∀ {us : List Value}, Vals (cs.map V.ref) us → us = cs.map Value.ref := by
  induction cs with
  | nil => intro us r; cases r; rfl
  | cons c cs ih =>
    intro us r
    cases r with
    | cons r rs => cases (show _ = Value.ref c from r); rw [ih rs]; rfl
end
end L2
set_option Elab.async false
set_option linter.all false
set_option maxRecDepth 100000
set_option maxHeartbeats 4000000
namespace L2
open PySem PySem.Spec PyProof.Rows
section
variable {X : Cx} {K : PySem.W.Frag}
end
end L2
namespace L2
open PySem
end L2
set_option Elab.async false
set_option linter.all false
set_option maxRecDepth 100000
set_option maxHeartbeats 4000000
namespace L2
open PySem PySem.Spec PyProof.Rows

/-! ### several objects of an iterator turn -/
section
variable {X : Cx} {pins : List (Addr × Obj)} {σ : St} {H : Hp} {s : Shared} {h' : Heap}
theorem Inv.turnedL {t' : Nat} {fp : List Addr} (I : Inv X pins σ H s) (hf : ∀ b ∈ fp, FpOk X pins H b) (k : ∀ b o, b ∉ fp → s.heap.get? b = some o → h'.get? b = some o) : Inv X pins σ H { s with heap := h', toks := t' } := by
  have nit : ∀ b u, H b = some u → b ∉ fp := fun b u e z => by rw [(hf b z).1] at e; cases e
  refine I.step (g' := s.gens) (d' := s.drawn) (ch := fp) (fun b hb => ?_) (fun b o _ _ hc e _ => k b o hc e) (fun b o _ _ hc e _ => ⟨o.slots, k b o hc e⟩) (fun _ _ _ _ n => n)
    (fun b o hc e => ⟨o, k b o hc e⟩) (fun _ _ e => e) (fun _ _ _ e => e) (fun b ps e => ⟨#[], by rw [e]; simp⟩) (fun m hm => ?_) (fun b u e => ?_) I.bare
  · obtain ⟨f0, f1, f2, f3, f4, f5⟩ := hf b hb
    exact ⟨f3, f1, f4, f5⟩
  · obtain ⟨o, es, ep, ho, r⟩ := hm
    exact ⟨o, es, ep, k _ o (fun z => (hf _ z).2.1 rfl) ho, r⟩
  · refine (I.hok b u e).stay (fun c v hc q => k c v ?_ q) (fun _ q => q) fun _ _ q => q
    rcases hc with z | z
    · rw [z]; exact nit b u e
    · exact nit c _ z
theorem FpOk.upd {b p : Addr} {o : HO} (h : FpOk X pins H b) (n : b ≠ p) : FpOk X pins (upd H p o) b := by
  obtain ⟨f0, r⟩ := h
  exact ⟨by rw [upd_ne n]; exact f0, r⟩
theorem get_push {h : Heap} {o u : Obj} {b : Addr} (ho : o.isFreed = false) (e : (h.push o).get? b = some u) : (b = h.objs.size ∧ u = o) ∨ h.get? b = some u := by
  by_cases hb : b = h.objs.size
  · subst hb
    rw [Heap.get?_push_size _ ho] at e
    exact .inl ⟨rfl, (Option.some.inj e).symm⟩
  · refine .inr ?_
    have lt := Heap.lt_size e
    have lt2 : b < h.objs.size := by
      have : (h.push o).objs.size = h.objs.size + 1 := by simp [Heap.push]
      rw [this] at lt
      exact Nat.lt_of_le_of_ne (Nat.le_of_lt_succ lt) hb
    have : (h.push o).get? b = h.get? b := by
      simp only [Heap.get?, Heap.push]
      rw [Array.getElem?_push_lt lt2, Array.getElem?_eq_getElem lt2]
    rw [← this]
    exact e
end

/-! ### enumerate -/
def Ite (K : PySem.W.Frag) (l : Addr) : It :=
  ⟨fun i H => ∃ xs x, SqL K H l xs ∧ xs[i]? = some x, fun i H x H' => ∃ (p : Addr) (y : V), x = .ref p ∧ H p = none ∧ (∀ xs, SqL K H l xs → xs[i]? = some y) ∧ H' = upd H p (.tup [.int i, y]), fun i H => ∃ xs, SqL K H l xs ∧ xs.length ≤ i⟩
theorem turn_enum {P : Program} {w : World} {K : PySem.W.Frag} {elts : List Expr} {x1 : Nat} {pos : Pos} (l e it : Addr) (hne : e ≠ it) : Turn P w K (.Tuple elts x1 pos) (Ite K l) [e, it] e (fun i h => (∃ old, IsEnum h e it i old) ∧ h.IsListIter it l i) where
  mem := by simp
  obj := fun i h st b hb => by
    obtain ⟨⟨old, he⟩, o, ho, c, d⟩ := st
    have hb' : b = e ∨ b = it := by simpa using hb
    rcases hb' with rfl | rfl
    · exact ⟨_, he, fun v z => by cases z⟩
    · exact ⟨o, ho, fun v z => by rw [d] at z; cases z⟩
  keep := fun i h h' st k => by
    obtain ⟨⟨old, he⟩, o, ho, c, d⟩ := st
    exact ⟨⟨old, k e (by simp) _ he⟩, o, k it (by simp) _ ho, c, d⟩
  item := by
    intro X hP hw hK hc i pins s σ H E I hf st hg
    subst hP hw hK
    obtain ⟨xs, x, hq, hx⟩ := hg
    obtain ⟨its, rv, p, hz⟩ := I.list hq
    obtain ⟨u, hu, ru⟩ := rv.get hx
    obtain ⟨⟨old, he⟩, hi⟩ := st
    have elt := Heap.lt_size he
    have ilt : it < s.heap.objs.size := by obtain ⟨o, ho, _⟩ := id hi; exact Heap.lt_size ho
    refine wpAny_pyNext_enum_item he hi p.isList (x := u) (by simpa using hu) hne fun h' hout hit htup hsz hk => ?_
    refine ⟨_, rfl, ?_⟩
    refine wpAny_letOwnedTupleGo_enum hout fun h2 he2 sb => ?_
    have hfr : H s.heap.objs.size = none := I.hok.fresh (Nat.le_refl _)
    have I0 : Inv X pins σ (upd H s.heap.objs.size (.tup [.int i, x])) { s with heap := s.heap.push { cls := .type "tuple", data := .seq #[.int i s.toks, u] } } :=
      I.laid (t' := s.toks) (fun b u e => Heap.get?_push_of_some _ e) (Nat.le_refl _) ⟨by show 2 ≤ sizeLine; decide, [.int i s.toks, u], .cons ⟨_, rfl⟩ (.cons ru .nil), ⟨_, Heap.get?_push_size _ rfl, rfl, _, rfl⟩⟩
    have ne1 : e ≠ s.heap.objs.size := Nat.ne_of_lt elt
    have ne2 : it ≠ s.heap.objs.size := Nat.ne_of_lt ilt
    have hf0 : ∀ b ∈ [e, it], FpOk X pins (upd H s.heap.objs.size (.tup [.int i, x])) b := fun b hb => by
      have hb' : b = e ∨ b = it := by simpa using hb
      rcases hb' with rfl | rfl
      · exact (hf _ (by simp)).upd ne1
      · exact (hf _ (by simp)).upd ne2
    have I1 := I0.turnedL (h' := h2) (t' := s.toks + 1) hf0 (fun b o hb eb => by
      have b1 : b ≠ e := fun z => hb (by simp [z])
      have b2 : b ≠ it := fun z => hb (by simp [z])
      rw [sb.2 b b1]
      rcases get_push rfl eb with ⟨rfl, rfl⟩ | eb
      · exact htup
      · exact hk b o b1 b2 eb)
    refine ⟨.ref s.heap.objs.size, _, I1, rfl, ⟨s.heap.objs.size, x, rfl, hfr, fun ys hy => by rw [I.list_inj hy hq]; exact hx, rfl⟩, ⟨⟨u, he2⟩, ?_⟩, fun b hb => (hf0 b hb).1⟩
    obtain ⟨o, ho, c, d⟩ := hit
    exact ⟨o, (sb.2 it (Ne.symm hne)).trans ho, c, d⟩
  done := by
    intro X hP hw hK hc i pins s σ H E I hf st hg
    subst hP hw hK
    obtain ⟨xs, hq, hx⟩ := hg
    obtain ⟨its, rv, p, hz⟩ := I.list hq
    obtain ⟨⟨old, he⟩, hi⟩ := st
    have hl := rv.length
    exact wpAny_pyNext_enum_end (I.ok.hd hc) he hi p.isList (by simp; omega) fun h' eb => ⟨rfl, I.turnedL (t' := s.toks) hf (fun b o hb e => eb b o (fun z => hb (by simp [z])) e)⟩
  self := fun _ _ _ _ _ st h => by
    obtain ⟨⟨old, he⟩, _⟩ := st
    exact wpAny_pyIter_enum he h
section
variable {X : Cx}
def iEnum (K : PySem.W.Frag) (ta : TA) : TI := fun σ H R => ta σ H fun vs H1 => ∃ l xs, vs = [.ref l] ∧ SqL K H1 l xs ∧ R (Ite K l) H1
theorem bt_enumerate : bootBuiltins "enumerate" = some (.type "enumerate") := by kernel_rfl
theorem pi_enumK {K : PySem.W.Frag} {a : Expr} {ta : TA} {p pos : Pos} {elts : List Expr} {x1 : Nat} {tpos : Pos} (hK : X.K = K) (hg : Gl X "enumerate") (hm : X.mg "enumerate" = none) (ha : PA X [a] ta) (hs : starEach [a] X.env = [(false, eval a X.env)] := by rfl) : PI X (.Tuple elts x1 tpos) (.Call (.Name "enumerate" p) [a] [] pos) (iEnum K ta) := by
  subst hK
  intro pins s σ H R I h
  refine Call_ (ld_blt I hg hm bt_enumerate (PyProof.Rows.callWith_type1 (thn (ha pos pins s σ H _ I h) fun us s1 ⟨vs, H1, I1, r1, q1⟩ => ?_) hs rfl))
  obtain ⟨l, xs, e, hq, q⟩ := q1
  subst e
  cases r1 with
  | cons r rr =>
    cases rr
    cases r
    obtain ⟨its, rv, pl, hz⟩ := I1.list hq
    refine call_enumerate_list pl.isList fun h' hE hI hsz hk => ?_
    refine wpAny_pyIter_enum hE ?_
    have I2 : Inv X pins σ H1 { s1 with heap := h' } := I1.kept (t' := s1.toks) hk
    refine ⟨s1.heap.objs.size + 1, [s1.heap.objs.size + 1, s1.heap.objs.size], _, _, H1, rfl, I2, turn_enum l _ _ (by simp), ⟨⟨_, hE⟩, hI⟩, fun b hb => ?_, q⟩
    have hb' : b = s1.heap.objs.size + 1 ∨ b = s1.heap.objs.size := by simpa using hb
    rcases hb' with rfl | rfl
    · exact I1.fpOk (Nat.le_succ _) (I1.hok.fresh (Nat.le_succ _))
    · exact I1.fpOk (Nat.le_refl _) (I1.hok.fresh (Nat.le_refl _))
end

/-! ### zip of two lists -/
section
variable {X : Cx}
end
end L2
set_option Elab.async false
set_option linter.all false
set_option maxRecDepth 100000
set_option maxHeartbeats 4000000
namespace L2
open PySem PySem.Spec PyProof.Rows
section
variable {K : PySem.W.Frag} {a l1 l2 D : Addr} {xs ys : List V} {g : TG} {tc : TT} {te : TE} {Q : VK} {σ0 : St} {H1 : Hp}
end
section
variable {K : PySem.W.Frag} {a l1 l2 : Addr} {xs ys : List V} {g : TG} {tb : TS} {D : Ends} {σ : St} {H : Hp}
theorem for_enum (Pv : Nat → St → Hp → Prop) (h0 : Pv 0 σ H) (hl : ∀ i σ H, i ≤ xs.length → Pv i σ H → SqL K H a xs)
    (hs : ∀ i x σ H p, xs[i]? = some x → Pv i σ H → H p = none → g (.ref p) σ (upd H p (.tup [.int i, x])) fun σ2 H2 => tb { D with nx := Pv (i + 1), ct := Pv (i + 1), bk := D.nx } σ2 H2) (hd : ∀ σ H, Pv xs.length σ H → D.nx σ H) :
    ∃ W : Nat → Nat → St → Hp → Prop, (∃ m, W 0 m σ H) ∧ ∀ i m σ H, W i m σ H →
      ((Ite K a).stop i H ∧ D.nx σ H) ∨ ((Ite K a).go i H ∧ ∃ N : St → Hp → Prop, (∀ σ' H', N σ' H' → ∃ m', m' < m ∧ W (i + 1) m' σ' H') ∧ ∀ x H', (Ite K a).yld i H x H' → g x σ H' fun σ2 H2 => tb { D with nx := N, ct := N, bk := D.nx } σ2 H2) := by
  refine ⟨fun i m σ H => m = xs.length - i ∧ i ≤ xs.length ∧ Pv i σ H, ⟨xs.length, by simp, Nat.zero_le _, h0⟩, ?_⟩
  rintro i m σ H ⟨rfl, hi, p⟩
  have q := hl i σ H hi p
  by_cases hlt : i < xs.length
  · refine .inr ⟨⟨xs, xs[i], q, by simp [hlt]⟩, Pv (i + 1), fun σ' H' p' => ⟨xs.length - (i + 1), by omega, rfl, hlt, p'⟩, fun x H' y => ?_⟩
    obtain ⟨t, z, rfl, ht, hz, rfl⟩ := y
    exact hs i z σ _ t (hz xs q) p ht
  · have e : i = xs.length := by omega
    subst e
    exact .inl ⟨⟨xs, q, Nat.le_refl _⟩, hd σ H p⟩
end
/-! ### list.insert, list.count, sum -/
section
variable {X : Cx}
theorem pe_bmK {K : PySem.W.Frag} {T name id : String} {r : V → List V → Hp → VK → Prop} {o e : Expr} {es : List Expr} {to : TE} {t : TA} {apos cpos : Pos} (h : X.K = K) (pa : PlainAttrs T) (slot : Slot T name id) (hty : typeOf (.builtin id) = pure (.type "method_descriptor")) (hm : MtR X id r) (ho : PE X o to) (ha : PA X (e :: es) t)
    (hbase : attributeBase o name X.env (eval o X.env) = eval o X.env := by rfl)
    (hfew : ((backTo cpos (starEach (e :: es) X.env)).all (fun x => !x.1) && (backToKw cpos (keywordEach [] X.env)).all (fun x => x.1.isSome)
      && decide ((e :: es).length + ([] : List Keyword).length + (if ([] : List Keyword).isEmpty then 0 else 1) < 30)) = true := by rfl)
    (hline : (apos.endLine == cpos.line) = true := by rfl) (hs : starEach (e :: es) X.env = (false, eval e X.env) :: starEach es X.env := by rfl) (hplain : (backTo cpos (starEach es X.env)).any (·.1) = false := by rfl) :
    PE X (.Call (.Attribute o name apos) (e :: es) [] cpos) (tBM K T r to t) := by
  subst h
  exact pe_bm pa slot hty hm ho ha hbase hfew hline hs hplain
theorem pg_tupK {K : PySem.W.Frag} {es : List Expr} {k : Nat} {t : TGs} {n : Nat} {pos : Pos} (hK : X.K = K) (hc : X.calm = true) (h : PGs X es t)
    (hn : (assignEach es X.env).length = n := by rfl) (hst : (assignEach es X.env).findIdx? (·.1) = none := by rfl) : PG X (.Tuple es k pos) (gTup K n t) := by subst hK; exact pg_tup hc h hn hst
end
end L2
set_option Elab.async false
set_option linter.all false
set_option maxRecDepth 100000
set_option maxHeartbeats 4000000
namespace L2
open PySem
/-! ### comprehensions whose block writes nothing that stood -/
section
variable {K : PySem.W.Frag} {a D : Addr} {xs : List V} {tc : TT} {te : TE} {Q : VK} {rest : St} {H1 : Hp}
theorem fm_succ {α : Type} (f : Nat → Option α) (n : Nat) : (List.range (n + 1)).filterMap f = (List.range n).filterMap f ++ (f n).toList := by
  rw [List.range_succ, List.filterMap_append]
  cases h : f n <;> simp [h]
theorem fm_len {α : Type} (f : Nat → Option α) (n : Nat) : ((List.range n).filterMap f).length ≤ n := by
  have := List.length_filterMap_le f (List.range n)
  simpa using this
theorem Same.newly {H H1 : Hp} {D : Addr} {o : HO} (h : Same H H1) (n : H D = none) : Same H (upd H1 D o) := fun b u e => by rw [upd_ne (ne_of_none e n)]; exact h b u e
/-- over a list: what is told of each item is known ahead -/
theorem comp_val (f : Nat → Option V) (hD : H1 D = none) (hq : SqL K H1 a xs) (hx : xs.length ≤ 100000)
    (hs : ∀ i x H (G : Hp → Prop) (F : VK), xs[i]? = some x → Same H1 H → (∀ H', Same H H' → f i = none → G H') → (∀ y H', Same H H' → f i = some y → F y H') → tc (some x :: rest) H fun b H3 => if b = true then te (some x :: rest) H3 F else G H3)
    (hd : ∀ H, Same H1 H → H D = some (.lst ((List.range xs.length).filterMap f)) → Q (.ref D) H) : CompW (Itl K a) (gName 0) tc te Q D (none :: rest) H1 := by
  refine comp_list (K := K) (xs := xs) (fun i σ H => (∃ v, σ = v :: rest) ∧ Same H1 H ∧ H D = some (.lst ((List.range i).filterMap f))) ⟨⟨none, rfl⟩, same_new hD, upd_same⟩ (fun i σ H _ ⟨_, sm, _⟩ => sm.sqL _ _ hq) ?_ (fun σ H ⟨_, sm, e⟩ => hd H sm e)
  rintro i x σ H hi ⟨⟨v, rfl⟩, sm, e⟩
  have hil : i < xs.length := (List.getElem?_eq_some_iff.mp hi).1
  refine hs i x H _ _ hi sm (fun H3 s3 ef => ⟨⟨_, rfl⟩, sm.trans s3, by rw [s3 _ _ e, fm_succ, ef]; simp⟩) (fun y H4 s4 ef => ?_)
  refine ⟨_, s4 _ _ e, ?_, ⟨_, rfl⟩, (sm.trans s4).newly hD, ?_⟩
  · have := fm_len f i
    rw [sizeLine_eq]; omega
  · rw [upd_same, fm_succ, ef]; rfl
theorem comp_valT (f : Nat → Option V) (hD : H1 D = none) (hq : H1 a = some (.tup xs)) (hx : xs.length ≤ 100000)
    (hs : ∀ i x H (G : Hp → Prop) (F : VK), xs[i]? = some x → Same H1 H → (∀ H', Same H H' → f i = none → G H') → (∀ y H', Same H H' → f i = some y → F y H') → tc (some x :: rest) H fun b H3 => if b = true then te (some x :: rest) H3 F else G H3)
    (hd : ∀ H, Same H1 H → H D = some (.lst ((List.range xs.length).filterMap f)) → Q (.ref D) H) : CompW (Itt K a) (gName 0) tc te Q D (none :: rest) H1 := by
  refine comp_tup (K := K) (xs := xs) (fun i σ H => (∃ v, σ = v :: rest) ∧ Same H1 H ∧ H D = some (.lst ((List.range i).filterMap f))) ⟨⟨none, rfl⟩, same_new hD, upd_same⟩ (fun i σ H _ ⟨_, sm, _⟩ => SqT.of (sm.tups _ _ hq)) ?_ (fun σ H ⟨_, sm, e⟩ => hd H sm e)
  rintro i x σ H hi ⟨⟨v, rfl⟩, sm, e⟩
  have hil : i < xs.length := (List.getElem?_eq_some_iff.mp hi).1
  refine hs i x H _ _ hi sm (fun H3 s3 ef => ⟨⟨_, rfl⟩, sm.trans s3, by rw [s3 _ _ e, fm_succ, ef]; simp⟩) (fun y H4 s4 ef => ?_)
  refine ⟨_, s4 _ _ e, ?_, ⟨_, rfl⟩, (sm.trans s4).newly hD, ?_⟩
  · have := fm_len f i
    rw [sizeLine_eq]; omega
  · rw [upd_same, fm_succ, ef]; rfl
theorem comp_valR {n : Nat} (f : Nat → Option V) (hD : H1 D = none) (hx : n ≤ 100000)
    (hs : ∀ i H (G : Hp → Prop) (F : VK), i < n → Same H1 H → (∀ H', Same H H' → f i = none → G H') → (∀ y H', Same H H' → f i = some y → F y H') → tc (some (.int (0 + i)) :: rest) H fun b H3 => if b = true then te (some (.int (0 + i)) :: rest) H3 F else G H3)
    (hd : ∀ H, Same H1 H → H D = some (.lst ((List.range n).filterMap f)) → Q (.ref D) H) : CompW (Itr 0 n) (gName 0) tc te Q D (none :: rest) H1 := by
  refine comp_range (lo := 0) (n := n) (fun i σ H => (∃ v, σ = v :: rest) ∧ Same H1 H ∧ H D = some (.lst ((List.range i).filterMap f))) ⟨⟨none, rfl⟩, same_new hD, upd_same⟩ ?_ (fun σ H ⟨_, sm, e⟩ => hd H sm e)
  rintro i σ H hi ⟨⟨v, rfl⟩, sm, e⟩
  refine hs i H _ _ hi sm (fun H3 s3 ef => ⟨⟨_, rfl⟩, sm.trans s3, by rw [s3 _ _ e, fm_succ, ef]; simp⟩) (fun y H4 s4 ef => ?_)
  refine ⟨_, s4 _ _ e, ?_, ⟨_, rfl⟩, (sm.trans s4).newly hD, ?_⟩
  · have := fm_len f i
    rw [sizeLine_eq]; omega
  · rw [upd_same, fm_succ, ef]; rfl
theorem fm_congr {α β : Type} {f g : α → Option β} : ∀ (l : List α) (_ : True) (h : ∀ x ∈ l, f x = g x), l.filterMap f = l.filterMap g
  | [], _, _ => rfl
  | x :: l, _, h => by
    rw [List.filterMap_cons, List.filterMap_cons, h x (by simp), fm_congr l trivial fun y hy => h y (by simp [hy])]
theorem snocInd {α : Type} {P : List α → Prop} (h0 : P []) (hs : ∀ xs x, P xs → P (xs ++ [x])) (xs : List α) : P xs := by
  rw [← List.reverse_reverse xs]
  induction xs.reverse with
  | nil => exact h0
  | cons x l ih => rw [List.reverse_cons]; exact hs _ _ ih
theorem fm_some {α β : Type} (xs : List α) (g : α → β) : (List.range xs.length).filterMap (fun i => (xs[i]?).map g) = xs.map g := by
  refine snocInd (P := fun xs => (List.range xs.length).filterMap (fun i => (xs[i]?).map g) = xs.map g) rfl (fun xs x ih => ?_) xs
  · show (List.range (xs ++ [x]).length).filterMap (fun i => ((xs ++ [x])[i]?).map g) = (xs ++ [x]).map g
    rw [List.length_append, List.length_singleton, fm_succ, List.map_append]
    congr 1
    · rw [← ih]
      refine fm_congr _ trivial fun i hi => ?_
      have : i < xs.length := by simpa using hi
      rw [List.getElem?_append_left this]
    · simp
end
end L2
namespace L2
open PySem
section
variable {X : Cx} {K : PySem.W.Frag}
theorem op_catTK (h : X.K = K) : OpR X (binaryOp .Add) (rCatT K) := by subst h; exact op_catT
end
end L2
namespace L2
open PySem
/-- the rest of a block hidden while its first statement is read: keeps the terms small -/
theorem seq_one {a b : TS} {D : Ends} {σ : St} {H : Hp} (h : ∀ R : St → Hp → Prop, (∀ σ' H', b D σ' H' → R σ' H') → a { D with nx := R } σ H) : tSeq a b D σ H := h _ (fun _ _ x => x)
theorem seq_cps {a b : TS} {D : Ends} {σ : St} {H : Hp} (P : St → Hp → Prop) (h1 : ∀ D' : Ends, (∀ σ' H', P σ' H' → D'.nx σ' H') → D'.rt = D.rt → a D' σ H) (h2 : ∀ σ' H', P σ' H' → b D σ' H') : tSeq a b D σ H := h1 _ h2 rfl
end L2
namespace L2
open PySem PySem.Spec PyProof.Rows
section
variable {X : Cx} {K : PySem.W.Frag} {a : Expr} {ta : TE} {pos : Pos}
end
end L2
set_option Elab.async false
set_option linter.all false
set_option maxRecDepth 100000
set_option maxHeartbeats 4000000
namespace L2
open PySem PySem.Spec PyProof.Rows
section
variable {X : Cx} {K : PySem.W.Frag}
end
section
variable {K : PySem.W.Frag} {a D : Addr} {xs : List V} {te : TE} {Q : VK} {rest : St} {H1 : Hp}
theorem dats_snoc {H : Hp} {vs : List V} {ds : List PyData} {v : V} {d : PyData} (h : Dats H vs ds) (hd : Dat H v d) : Dats H (vs ++ [v]) (ds ++ [d]) := Dats.append h (by simp only [Dats, and_true]; exact hd)
end
end L2
set_option Elab.async false
set_option linter.all false
set_option maxRecDepth 100000
set_option maxHeartbeats 4000000
namespace L2
open PySem PySem.Spec PyProof.Rows
section
variable {prog : Program} {w : World} {K : Type} [DecidableEq K] {knd : HeapKind prog w K}
end
section
variable {X : Cx} {o e f : Expr} {td ty tx : TE} {apos cpos : Pos}
end
end L2
namespace L2
open PySem PySem.Spec PyProof.Rows
section
variable {X : Cx} {K : PySem.W.Frag}
end
end L2
namespace L2
open PySem
end L2
set_option Elab.async false
set_option linter.all false
set_option maxRecDepth 100000
set_option maxHeartbeats 4000000
namespace L2
open PySem PySem.Spec PyProof.Rows
section
variable {X : Cx} {K : PySem.W.Frag}
end
/-! ### texts put together -/
def cat : List Str → Str
  | [] => Str.empty
  | x :: xs => x ++ cat xs
end L2
set_option Elab.async false
set_option linter.all false
set_option maxRecDepth 100000
set_option maxHeartbeats 4000000
namespace L2
open PySem PySem.Spec PyProof.Rows
section
variable {X : Cx} {body suite : List Stmt} {b0 : Stmt} {cn : Str} {Dc : Addr} {tb : (St → XK) → TS} {th : TS} {cp hpos pos : Pos}
end
end L2
namespace L2
open PySem PySem.Spec PyProof.Rows
section
variable {X : Cx}
end
end L2
set_option Elab.async false
set_option linter.all false
set_option maxRecDepth 100000
set_option maxHeartbeats 4000000
namespace L2
open PySem PySem.Spec PyProof.Rows
section
variable {X : Cx} {pins : List (Addr × Obj)} {σ : St} {H : Hp} {s : Shared} {d : Addr} {u u' : HO}
/-- what an object is held as is changed, the object stays -/
theorem Inv.retag (I : Inv X pins σ H s) (e : H d = some u) (h1 : ∀ xs, u ≠ .tup xs) (h2 : ∀ a, u ≠ .own a) (h3 : ∀ ps, u ≠ .tbl ps) (hz : ∀ o v, X.H₀ d ≠ some (.frz o v)) (ok : ObjOk X.prog X.w (upd H d u') s.heap d u') : Inv X pins σ (upd H d u') s := by
  have nd : ∀ {b : Addr}, H b = none → b ≠ d := fun q z => by rw [z, e] at q; cases q
  have ht : ∀ b xs, H b = some (HO.tup xs) → (upd H d u') b = some (HO.tup xs) := fun b xs q => by
    have : b ≠ d := fun z => by rw [z, e] at q; exact h1 xs (Option.some.inj q)
    rw [upd_ne this]; exact q
  refine ⟨I.ok, I.os, I.bare, ⟨I.base.keep, I.base.slot, fun b o q n hx => ?_, I.base.there, fun b xs q => ht b xs (I.base.tups b xs q), fun b o v q => ?_, fun b ps q => ?_⟩, I.loc, I.cell, ?_, fun x c q => ?_, fun p hp => ?_, fun b v q => ?_, I.len⟩
  · have := I.base.free b o q n hx
    rw [upd_ne (nd this)]; exact this
  · have := I.base.frzs b o v q
    have nb : b ≠ d := fun z => by rw [z] at q; exact hz o v q
    rw [upd_ne nb]; exact this
  · obtain ⟨more, r⟩ := I.base.tbls b ps q
    have nb : b ≠ d := fun z => by rw [z, e] at r; exact h3 _ (Option.some.inj r)
    exact ⟨more, by rw [upd_ne nb]; exact r⟩
  · rw [upd_ne (nd I.free)]; exact I.free
  · rw [upd_ne (nd (I.freeC x c q))]; exact I.freeC x c q
  · obtain ⟨q1, q2, q3⟩ := I.pin p hp
    exact ⟨q1, by rw [upd_ne (nd q2)]; exact q2, q3⟩
  · by_cases hb : b = d
    · subst hb
      rw [upd_same] at q
      cases q
      exact ok
    · rw [upd_ne hb] at q
      refine (I.hok b v q).stay (fun _ _ _ r => r) (fun c r => ?_) ht
      have : c ≠ d := fun z => by rw [z, e] at r; exact h2 _ (Option.some.inj r)
      rw [upd_ne this]; exact r
theorem Inv.nofrz {kvs : List (Key × V)} (I : Inv X pins σ H s) (e : H d = some (.dK kvs)) : ∀ o v, X.H₀ d ≠ some (.frz o v) := fun o v q => by
  have := I.base.frzs d o v q
  rw [e] at this
  cases this
theorem Inv.freeze {kvs : List (Key × V)} {o : Obj} (I : Inv X pins σ H s) (e : H d = some (.dK kvs)) (ho : s.heap.get? d = some o) : Inv X pins σ (upd H d (.frz o (.dK kvs))) s := by
  refine I.retag e (fun _ z => by cases z) (fun _ z => by cases z) (fun _ z => by cases z) (I.nofrz e) ⟨ho, ?_⟩
  obtain ⟨z, y, vs, r, dd⟩ := (show ObjOk X.prog X.w H s.heap d (.dK kvs) from I.hok d _ e)
  exact ⟨z, y, vs, r, dd⟩
theorem Inv.thaw {kvs : List (Key × V)} {o : Obj} (I : Inv X pins σ H s) (e : H d = some (.frz o (.dK kvs))) (hz : ∀ o v, X.H₀ d ≠ some (.frz o v)) : Inv X pins σ (upd H d (.dK kvs)) s := by
  refine I.retag e (fun _ z => by cases z) (fun _ z => by cases z) (fun _ z => by cases z) hz ?_
  obtain ⟨_, z, y, vs, r, dd⟩ := (show ObjOk X.prog X.w H s.heap d (.frz o (.dK kvs)) from I.hok d _ e)
  exact ⟨z, y, vs, r, dd⟩
end
/-! ### over a dict's keys: the dict is held as it stands till the walk is over -/
def Itd (d : Addr) (o : Obj) (kvs : List (Key × V)) : It :=
  ⟨fun i H => i < kvs.length ∧ H d = some (.frz o (.dK kvs)), fun i H x H' => H' = H ∧ ∃ k v, kvs[i]? = some (k, v) ∧ x = kV k, fun i H => kvs.length ≤ i ∧ H d = some (.frz o (.dK kvs))⟩
theorem kv_get {kvs : List (Key × V)} {vs : List (Key × Value)} (r : KV kvs vs) : ∀ (i : Nat) (k : Key) (v : V), kvs[i]? = some (k, v) → ∃ u, vs[i]? = some (k, u) := by
  induction r with
  | nil => intro i k v h; cases h
  | cons h r ih =>
    intro i k v e
    cases i with
    | zero =>
      have e' := Option.some.inj e
      rename_i p q _ _
      obtain ⟨h1, h2⟩ := h
      obtain ⟨q1, q2⟩ := q
      refine ⟨q2, ?_⟩
      have : q1 = k := by rw [e'] at h1; exact h1.symm
      subst this
      rfl
    | succ i => exact ih i k v (by simpa using e)
theorem turn_dict {P : Program} {w : World} {K : PySem.W.Frag} {tg : Expr} (d it : Addr) (o : Obj) (kvs : List (Key × V)) (es : Array DictEntry) (ep : Nat) (hd : o.data = .dict es ep) : Turn P w K tg (Itd d o kvs) [it] it (fun i h => h.IsKeyIter it d i kvs.length ep) where
  mem := by simp
  obj := fun i h st b hb => by
    have e : b = it := by simpa using hb
    subst e
    obtain ⟨o, e, c, d⟩ := st
    exact ⟨o, e, fun v z => by rw [d] at z; cases z⟩
  keep := fun i h h' st k => by
    obtain ⟨o, e, c, d⟩ := st
    exact ⟨o, k it (by simp) o e, c, d⟩
  item := by
    intro X hP hw hK hc i pins s σ H E I hf st hg
    subst hP hw hK
    obtain ⟨hi, hH⟩ := hg
    obtain ⟨ho, z, y, vs, r, o', es', ep', q1, q2, q3, q4, q5, q6⟩ := (show ObjOk X.prog X.w H s.heap d (.frz o (.dK kvs)) from I.hok d _ hH)
    rw [ho] at q1
    cases q1
    rw [hd] at q3
    cases q3
    have hl : kvs.length = vs.length := r.length
    obtain ⟨k, v, ekv⟩ : ∃ k v, kvs[i]? = some (k, v) := ⟨kvs[i].1, kvs[i].2, by simp [hi]⟩
    obtain ⟨u, eu⟩ := kv_get r i k v ekv
    obtain ⟨f0, f1, f2, f3, f4, f5⟩ := hf it (by simp)
    refine wpAny_pyNext_dict_item (knd := mixKind X.prog X.w) (by rw [← hl]; exact st) ⟨o, es, ho, q2, hd, q4, q5, q6⟩ eu fun key h' hk st' sb => ?_
    have I1 : Inv X pins σ H { s with heap := h' } := I.turned (t' := s.toks) (fun b o hb e => (sb.2 b hb).trans e) f0 f1 f3 f4 f5
    obtain ⟨ob, e, c, dd⟩ := id st'
    have rk : RelV (kV k) key := by
      rw [mixKind_is] at hk
      rcases keyIs_shape hk with ⟨j, t, e1, e2⟩ | ⟨x, t, e1, e2⟩
      · subst e1; subst e2; exact ⟨t, rfl⟩
      · subst e1; subst e2; exact ⟨t, rfl⟩
    exact ⟨key, rfl, go_of (s := { s with heap := h' }) e c dd (by decide) ⟨kV k, H, I1, rk, ⟨rfl, k, v, ekv, rfl⟩, by rw [hl]; exact st', fun b hb => (hf b hb).1⟩⟩
  done := by
    intro X hP hw hK hc i pins s σ H E I hf st hg
    subst hP hw hK
    obtain ⟨hi, hH⟩ := hg
    obtain ⟨ho, z, y, vs, r, o', es', ep', q1, q2, q3, q4, q5, q6⟩ := (show ObjOk X.prog X.w H s.heap d (.frz o (.dK kvs)) from I.hok d _ hH)
    rw [ho] at q1
    cases q1
    rw [hd] at q3
    cases q3
    have hl : kvs.length = vs.length := r.length
    obtain ⟨f0, f1, f2, f3, f4, f5⟩ := hf it (by simp)
    exact wpAny_pyNext_dict_end (knd := mixKind X.prog X.w) (I.ok.hd hc) (by rw [← hl]; exact st) ⟨o, es, ho, q2, hd, q4, q5, q6⟩ (by simp; omega) fun h' eb => ⟨rfl, I.turned (t' := s.toks) (fun b o hb e => eb b o hb e) f0 f1 f3 f4 f5⟩
  self := fun _ _ _ _ _ st h => wpAny_pyIter_keyiter st h
section
variable {X : Cx} {tg : Expr}
def iDict (tl : TE) : TI := fun σ H R => tl σ H fun x H1 => ∃ d kvs, x = .ref d ∧ H1 d = some (.dK kvs) ∧ ∀ o, R (Itd d o kvs) (upd H1 d (.frz o (.dK kvs)))
theorem pi_dict {l : Expr} {tl : TE} (hl : PE X l tl) : PI X tg l (iDict tl) := by
  intro pins s σ H R I h
  refine thn (hl pins s σ H _ I h) fun v s1 ⟨x, H1, I1, r1, q1⟩ => ?_
  obtain ⟨d, kvs, e, hH, q⟩ := q1
  subst e
  cases r1
  obtain ⟨z, hd, vs, r, o, es, ep, ho, q2, q3, q4, q5, q6⟩ := dk_of I1.hok hH
  refine wpAny_pyIter_dict (knd := mixKind X.prog X.w) hd ⟨o, es, ho, q2, q3, q4, q5, q6⟩ ?_
  have If := I1.freeze hH ho
  have hl : kvs.length = vs.length := r.length
  have nit : (upd H1 d (HO.frz o (.dK kvs))) s1.heap.objs.size = none := by
    rw [upd_ne (Ne.symm (Nat.ne_of_lt (Heap.lt_size ho)))]
    exact I1.hok.fresh (Nat.le_refl _)
  refine ⟨s1.heap.objs.size, [s1.heap.objs.size], _, _, upd H1 d (.frz o (.dK kvs)), rfl, If.kept (t' := s1.toks) fun b o e => Heap.get?_push_of_some _ e, turn_dict d _ o kvs es ep q3, ⟨_, Heap.get?_push_size _ rfl, rfl, by rw [hl]; rfl⟩, fun b hb => ?_, q o⟩
  have e : b = s1.heap.objs.size := by simpa using hb
  subst e
  exact If.fpOk (Nat.le_refl _) nit
end
section
variable {d D : Addr} {o : Obj} {kvs : List (Key × V)} {tc : TT} {te : TE} {Q : VK} {rest : St} {H1 : Hp}
end
/-! ### let go again -/
def Thaw (H H' H'' : Hp) : Prop := ∃ d kvs0 o kvs, H d = some (.dK kvs0) ∧ H' d = some (.frz o (.dK kvs)) ∧ H'' = upd H' d (.dK kvs)
def sThaw (t : TS) : TS := fun D σ H => t { D with nx := fun σ' H' => ∃ H'', Thaw H H' H'' ∧ D.nx σ' H'' } σ H
theorem ps_thaw {X : Cx} {st : Stmt} {t : TS} (h : PS X st t) : PS X st (sThaw t) := by
  intro pins s σ H D I q
  refine wpAny_mono (h pins s σ H _ I q) (fun f s1 q1 => ?_) fun _ _ z => z
  cases f with
  | next =>
    obtain ⟨σ1, H1, I1, H2, ⟨d, kvs0, o, kvs, e1, e2, rfl⟩, q2⟩ := q1
    exact ⟨σ1, _, I1.thaw e2 (I.nofrz e1), q2⟩
  | brk => exact q1
  | cont => exact q1
  | ret u => exact q1
end L2
set_option Elab.async false
set_option linter.all false
set_option maxRecDepth 100000
set_option maxHeartbeats 4000000
namespace L2
open PySem PySem.Spec PyProof.Rows
/-- over the keys of a dict that is held as it stands -/
theorem for_dict {d : Addr} {o : Obj} {kvs : List (Key × V)} {g : TG} {tb : TS} {D : Ends} {σ : St} {H : Hp} (Pv : Nat → St → Hp → Prop) (h0 : Pv 0 σ H) (hl : ∀ i σ H, i ≤ kvs.length → Pv i σ H → H d = some (.frz o (.dK kvs)))
    (hs : ∀ i k v σ H, kvs[i]? = some (k, v) → Pv i σ H → g (kV k) σ H fun σ2 H2 => tb { D with nx := Pv (i + 1), ct := Pv (i + 1), bk := D.nx } σ2 H2) (hd : ∀ σ H, Pv kvs.length σ H → D.nx σ H) :
    ∃ W : Nat → Nat → St → Hp → Prop, (∃ m, W 0 m σ H) ∧ ∀ i m σ H, W i m σ H →
      ((Itd d o kvs).stop i H ∧ D.nx σ H) ∨ ((Itd d o kvs).go i H ∧ ∃ N : St → Hp → Prop, (∀ σ' H', N σ' H' → ∃ m', m' < m ∧ W (i + 1) m' σ' H') ∧ ∀ x H', (Itd d o kvs).yld i H x H' → g x σ H' fun σ2 H2 => tb { D with nx := N, ct := N, bk := D.nx } σ2 H2) := by
  refine ⟨fun i m σ H => m = kvs.length - i ∧ i ≤ kvs.length ∧ Pv i σ H, ⟨kvs.length, by simp, Nat.zero_le _, h0⟩, ?_⟩
  rintro i m σ H ⟨rfl, hi, p⟩
  have q := hl i σ H hi p
  by_cases hlt : i < kvs.length
  · refine .inr ⟨⟨hlt, q⟩, Pv (i + 1), fun σ' H' p' => ⟨kvs.length - (i + 1), by omega, rfl, hlt, p'⟩, fun x H' y => ?_⟩
    obtain ⟨rfl, k, v, e, rfl⟩ := y
    exact hs i k v σ _ e p
  · have e : i = kvs.length := by omega
    subst e
    exact .inl ⟨⟨Nat.le_refl _, q⟩, hd σ H p⟩
/-! ### dicts from numbers to numbers -/
def kvG (hs : List Int) (g : Int → Int) : List (Key × V) := hs.map fun h => (Sum.inl h, V.int (g h))
theorem kvG_val {hs : List Int} {g : Int → Int} : ∀ (h : Int), valV (kvG hs g) (Sum.inl h) = if h ∈ hs then some (V.int (g h)) else none := by
  intro h
  induction hs with
  | nil => rfl
  | cons x hs ih =>
    show valV ((Sum.inl x, V.int (g x)) :: kvG hs g) _ = _
    by_cases e : x = h
    · subst e
      rw [valV_pos rfl, if_pos (List.mem_cons_self ..)]
    · rw [valV_neg (fun z => e (Sum.inl.inj z)), ih]
      by_cases m : h ∈ hs
      · rw [if_pos m, if_pos (List.mem_cons_of_mem _ m)]
      · rw [if_neg m, if_neg (fun z => (List.mem_cons.mp z).elim (fun z => e z.symm) m)]
def gSet (g : Int → Int) (h v : Int) : Int → Int := fun x => if x = h then v else g x
def hAdd (hs : List Int) (h : Int) : List Int := if h ∈ hs then hs else hs ++ [h]
theorem kvG_put {hs : List Int} {g : Int → Int} (h v : Int) : putK (kvG hs g) (Sum.inl h) (V.int v) = kvG (hAdd hs h) (gSet g h v) := by
  unfold putK hAdd
  rw [valV_any, kvG_val]
  by_cases m : h ∈ hs
  · rw [if_pos m, Option.isSome_some, if_pos rfl, if_pos m]
    unfold kvG
    rw [List.map_map]
    refine List.map_congr_left fun x _ => ?_
    simp only [Function.comp, gSet]
    by_cases e : x = h
    · subst e; simp
    · rw [if_neg (fun z => e (Sum.inl.inj z)), if_neg e]
  · rw [if_neg m, if_neg (by simp), if_neg m]
    unfold kvG
    rw [List.map_append]
    congr 1
    · refine List.map_congr_left fun x hx => ?_
      have : x ≠ h := fun z => m (z ▸ hx)
      simp only [gSet, if_neg this]
    · simp [gSet]
theorem nodup_le : ∀ (n : Nat) (hs : List Int), hs.Nodup → (∀ h ∈ hs, 0 ≤ h ∧ h < (n : Int)) → hs.length ≤ n
  | 0, hs, _, hr => by
    cases hs with
    | nil => exact Nat.le_refl _
    | cons x hs => have := hr x (List.mem_cons_self ..); omega
  | n + 1, hs, nd, hr => by
    have ih := nodup_le n (hs.erase (n : Int)) (nd.erase _) fun h hh => by
      have h1 := (nd.mem_erase_iff).mp hh
      have h2 := hr h h1.2
      have := h1.1
      omega
    by_cases m : (n : Int) ∈ hs
    · rw [List.length_erase_of_mem m] at ih; omega
    · rw [List.erase_of_not_mem m] at ih; omega
theorem hAdd_nd {hs : List Int} {h : Int} (nd : hs.Nodup) : (hAdd hs h).Nodup := by
  unfold hAdd
  by_cases m : h ∈ hs
  · rw [if_pos m]; exact nd
  · rw [if_neg m]
    rw [List.nodup_append]
    exact ⟨nd, by simp, fun a ha b hb e => by simp at hb; subst hb; subst e; exact m ha⟩
theorem hAdd_mem {hs : List Int} {h x : Int} : x ∈ hAdd hs h ↔ x ∈ hs ∨ x = h := by
  unfold hAdd
  by_cases m : h ∈ hs
  · rw [if_pos m]
    exact ⟨.inl, fun z => z.elim id fun e => e ▸ m⟩
  · rw [if_neg m]; simp
/-- a dict by hands: 0 where a hand is not there -/
structure KdAt (H : Hp) (d : Addr) (g : Int → Int) : Prop where
  ex : ∃ hs : List Int, H d = some (.dK (kvG hs g)) ∧ hs.Nodup ∧ (∀ h ∈ hs, 0 ≤ h ∧ h < 8) ∧ ∀ h, h ∉ hs → g h = 0
  nn : ∀ h, 0 ≤ g h
theorem KdAt.get {H : Hp} {d : Addr} {g : Int → Int} (k : KdAt H d g) : ∃ kvs, H d = some (.dK kvs) ∧ kvs.length ≤ 8 ∧ ∀ h : Int, (valV kvs (Sum.inl h)).getD (.int 0) = .int (g h) := by
  obtain ⟨hs, e, nd, r, z⟩ := k.ex
  refine ⟨_, e, by rw [kvG, List.length_map]; exact nodup_le 8 hs nd r, fun h => ?_⟩
  rw [kvG_val]
  by_cases m : h ∈ hs
  · rw [if_pos m]; rfl
  · rw [if_neg m, z h m]; rfl
theorem KdAt.put {H : Hp} {d : Addr} {g : Int → Int} {h v : Int} (k : KdAt H d g) (h0 : 0 ≤ h) (h1 : h < 8) (v0 : 0 ≤ v) : ∃ kvs, H d = some (.dK kvs) ∧ kvs.length < sizeLine ∧ ∀ H', H' d = some (.dK (putK kvs (Sum.inl h) (.int v))) → KdAt H' d (gSet g h v) := by
  obtain ⟨hs, e, nd, r, z⟩ := k.ex
  refine ⟨_, e, ?_, fun H' e' => ⟨⟨hAdd hs h, by rw [e', kvG_put], hAdd_nd nd, fun x hx => ?_, fun x hx => ?_⟩, fun x => ?_⟩⟩
  · have := nodup_le 8 hs nd r
    rw [kvG, List.length_map, sizeLine_eq]; omega
  · rcases hAdd_mem.mp hx with hx | rfl
    · exact r x hx
    · exact ⟨h0, h1⟩
  · have n1 : x ∉ hs := fun z => hx (hAdd_mem.mpr (.inl z))
    have n2 : x ≠ h := fun z => hx (hAdd_mem.mpr (.inr z))
    unfold gSet
    rw [if_neg n2]; exact z x n1
  · unfold gSet
    split
    · exact v0
    · exact k.nn x
theorem KdAt.kp {H H' : Hp} {d r : Addr} {g : Int → Int} (k : KdAt H d g) (kp : Kp r H H') (n : d ≠ r) : KdAt H' d g := by
  obtain ⟨hs, e, q⟩ := k.ex
  exact ⟨⟨hs, kp _ _ e n, q⟩, k.nn⟩
theorem KdAt.same {H H' : Hp} {d : Addr} {g : Int → Int} (k : KdAt H d g) (s : Same H H') : KdAt H' d g := by
  obtain ⟨hs, e, q⟩ := k.ex
  exact ⟨⟨hs, s _ _ e, q⟩, k.nn⟩
theorem KdAt.ext {H : Hp} {d : Addr} {g g' : Int → Int} (k : KdAt H d g) (e : ∀ h, g h = g' h) : KdAt H d g' := by
  have : g = g' := funext e
  rw [← this]; exact k
end L2
set_option Elab.async false
set_option linter.all false
set_option maxRecDepth 100000
set_option maxHeartbeats 4000000
namespace L2
open PySem PySem.Spec PyProof.Rows
/-! ### range downwards -/
section
variable {X : Cx} {tg : Expr}
/-! ### the least of a list -/
end
end L2
set_option Elab.async false
set_option linter.all false
set_option maxRecDepth 100000
set_option maxHeartbeats 4000000
namespace L2
open PySem PySem.Spec PyProof.Rows
/-! ### reversed of a list -/
section
variable {X : Cx} {tg : Expr}
/-! ### list(range(a, b)) -/
end
end L2
set_option Elab.async false
set_option linter.all false
set_option maxRecDepth 100000
set_option maxHeartbeats 4000000
namespace L2
open PySem PySem.Spec PyProof.Rows
/-! ### in, for lists of data -/
section
variable {X : Cx}
end
end L2
set_option Elab.async false
set_option linter.all false
set_option maxRecDepth 100000
set_option maxHeartbeats 4000000
namespace L2
open PySem PySem.Spec PyProof.Rows
/-! ### a def that may raise, where it doesn't -/
/-! ### data that stay -/
section
variable {H H' : Hp}
mutual
theorem Dat.same (k : Same H H') : ∀ (d : PyData) {v : V}, Dat H v d → Dat H' v d
  | .none, _, h => by simp only [Dat] at h ⊢; exact h
  | .bool _, _, h => by simp only [Dat] at h ⊢; exact h
  | .int _, _, h => by simp only [Dat] at h ⊢; exact h
  | .str _, _, h => by simp only [Dat] at h ⊢; exact h
  | .list ds, _, h => by simp only [Dat] at h ⊢; obtain ⟨a, vs, e, q, r⟩ := h; exact ⟨a, vs, e, k _ _ q, Dats.same k ds r⟩
  | .tuple ds, _, h => by simp only [Dat] at h ⊢; obtain ⟨a, vs, e, q, r⟩ := h; exact ⟨a, vs, e, k _ _ q, Dats.same k ds r⟩
  | .dict _, _, h => by simp only [Dat] at h
theorem Dats.same (k : Same H H') : ∀ (ds : List PyData) {vs : List V}, Dats H vs ds → Dats H' vs ds
  | [], [], _ => by simp only [Dats]
  | d :: ds, v :: vs, h => by simp only [Dats] at h ⊢; exact ⟨Dat.same k d h.1, Dats.same k ds h.2⟩
  | _ :: _, [], h => by simp only [Dats] at h
  | [], _ :: _, h => by simp only [Dats] at h
end
end
/-! ### isinstance(x, (t1, t2)) of plain data -/
section
variable {X : Cx} {K : PySem.W.Frag}
end
section
variable {K : PySem.W.Frag} {a D : Addr} {xs : List V} {tc : TT} {te : TE} {Q : VK} {rest : St} {H1 : Hp}
theorem imms_fm {f : Nat → Option PyData} (hf : ∀ i d, f i = some d → imm d = true) : ∀ l : List Nat, imms (l.filterMap f) = true
  | [] => rfl
  | i :: l => by
    rw [List.filterMap_cons]
    cases e : f i with
    | none => exact imms_fm hf l
    | some d => simp only [imms, hf i d e, imms_fm hf l, Bool.and_self]
/-- items that are new data of their own, over a list, some left out -/
theorem comp_datL (f : Nat → Option PyData) (hf : ∀ i d, f i = some d → imm d = true) (hD : H1 D = none) (hq : SqL K H1 a xs) (hx : xs.length ≤ 100000)
    (hs : ∀ i x H (G : Hp → Prop) (F : VK), xs[i]? = some x → Same H1 H → (∀ H', Same H H' → f i = none → G H') → (∀ y d H', Same H H' → f i = some d → Dat H' y d → F y H') → tc (some x :: rest) H fun b H3 => if b = true then te (some x :: rest) H3 F else G H3)
    (hd : ∀ H vs, Same H1 H → H D = some (.lst vs) → Dats H vs ((List.range xs.length).filterMap f) → Q (.ref D) H) : CompW (Itl K a) (gName 0) tc te Q D (none :: rest) H1 := by
  refine comp_list (K := K) (xs := xs) (fun i σ H => (∃ v, σ = v :: rest) ∧ Same H1 H ∧ ∃ vs, H D = some (.lst vs) ∧ Dats H vs ((List.range i).filterMap f)) ⟨⟨none, rfl⟩, same_new hD, [], upd_same, by simp [Dats]⟩ (fun i σ H _ ⟨_, sm, _⟩ => sm.sqL _ _ hq) ?_ (fun σ H ⟨_, sm, vs, e, d⟩ => hd H vs sm e d)
  rintro i x σ H hi ⟨⟨v, rfl⟩, sm, vs, e, d⟩
  have hil : i < xs.length := (List.getElem?_eq_some_iff.mp hi).1
  have im := imms_fm hf (List.range i)
  refine hs i x H _ _ hi sm (fun H3 s3 ef => ⟨⟨_, rfl⟩, sm.trans s3, vs, s3 _ _ e, ?_⟩) (fun y dd H4 s4 ef dy => ?_)
  · rw [fm_succ, ef]
    simpa using Dats.keep s3.tups _ im d
  · have hl : vs.length ≤ i := by rw [d.length]; exact fm_len f i
    have kp : Kp D H4 (upd H4 D (.lst (vs ++ [y]))) := Kp.set
    have tp := kp.tups (s4 _ _ e)
    refine ⟨vs, s4 _ _ e, ?_, ⟨_, rfl⟩, (sm.trans s4).newly hD, vs ++ [y], upd_same, ?_⟩
    · rw [sizeLine_eq]; omega
    · rw [fm_succ, ef]
      exact dats_snoc (Dats.keep (fun a xs h => tp _ _ (s4.tups _ _ h)) _ im d) (Dat.keep tp _ (hf i dd ef) dy)
end
/-! ### t + u, any tuples -/
section
variable {X : Cx}
end
end L2
set_option Elab.async false
set_option linter.all false
set_option maxRecDepth 100000
set_option maxHeartbeats 4000000
namespace L2
open PySem
section
variable {K : PySem.W.Frag} {a D : Addr} {xs : List V} {tc : TT} {te : TE} {Q : VK} {rest : St} {H1 : Hp}
/-- over a list of pairs, taken apart: the block tells data that never changes, or leaves out -/
theorem comp_datP (f : Nat → Option PyData) (hf : ∀ i d, f i = some d → imm d = true) (hD : H1 D = none) (hq : H1 a = some (.lst xs)) (hx : xs.length ≤ 100000) (hp : ∀ (i : Nat) (v : V), xs[i]? = some v → ∃ (t : Addr) (x y : V), v = .ref t ∧ H1 t = some (.tup [x, y]))
    (hs : ∀ i t x y H (G : Hp → Prop) (F : VK), xs[i]? = some (.ref t) → H1 t = some (.tup [x, y]) → Same H1 H → (∀ H', Same H H' → f i = none → G H') → (∀ v d H', Same H H' → f i = some d → Dat H' v d → F v H') → tc (some x :: some y :: rest) H fun b H3 => if b = true then te (some x :: some y :: rest) H3 F else G H3)
    (hd : ∀ H vs, Same H1 H → H D = some (.lst vs) → Dats H vs ((List.range xs.length).filterMap f) → Q (.ref D) H) : CompW (Itl K a) (gTup K 2 (gCons (gName 0) (gCons (gName 1) gNil))) tc te Q D (none :: none :: rest) H1 := by
  refine comp_list (K := K) (xs := xs) (fun i σ H => (∃ u v, σ = u :: v :: rest) ∧ Same H1 H ∧ ∃ vs, H D = some (.lst vs) ∧ Dats H vs ((List.range i).filterMap f)) ⟨⟨none, none, rfl⟩, same_new hD, [], upd_same, by simp [Dats]⟩ (fun i σ H _ ⟨_, sm, _⟩ => SqL.of (sm _ _ hq)) ?_ (fun σ H ⟨_, sm, vs, e, d⟩ => hd H vs sm e d)
  rintro i v σ H hi ⟨⟨u1, u2, rfl⟩, sm, vs, e, d⟩
  obtain ⟨t, x, y, rfl, ht⟩ := hp i v hi
  have hil : i < xs.length := (List.getElem?_eq_some_iff.mp hi).1
  have im := imms_fm hf (List.range i)
  refine ⟨t, _, rfl, SqT.of (sm _ _ ht), rfl, _, _, rfl, _, _, rfl, rfl, ?_⟩
  refine hs i t x y H _ _ hi ht sm (fun H3 s3 ef => ⟨⟨_, _, rfl⟩, sm.trans s3, vs, s3 _ _ e, ?_⟩) (fun y dd H4 s4 ef dy => ?_)
  · rw [fm_succ, ef]
    simpa using Dats.keep s3.tups _ im d
  · have hl : vs.length ≤ i := by rw [d.length]; exact fm_len f i
    have kp : Kp D H4 (upd H4 D (.lst (vs ++ [y]))) := Kp.set
    have tp := kp.tups (s4 _ _ e)
    refine ⟨vs, s4 _ _ e, ?_, ⟨_, _, rfl⟩, (sm.trans s4).newly hD, vs ++ [y], upd_same, ?_⟩
    · rw [sizeLine_eq]; omega
    · rw [fm_succ, ef]
      exact dats_snoc (Dats.keep (fun a xs h => tp _ _ (s4.tups _ _ h)) _ im d) (Dat.keep tp _ (hf i dd ef) dy)
end
end L2
set_option Elab.async false
set_option linter.all false
set_option maxRecDepth 100000
set_option maxHeartbeats 4000000
namespace L2
open PySem PySem.Spec PyProof.Rows
theorem Room.units1 {k : Nat} {A : Around} (r : Room k A) : A.in1.units + 64 < cLine := by have := r.un; show A.units + 1 + 64 < _; omega
/-! ### xs[::-1] -/
section
variable {X : Cx} {K : PySem.W.Frag} {e st : Expr} {te tk : TE} {pos p2 : Pos}
end
end L2
set_option Elab.async false
set_option linter.all false
set_option maxRecDepth 100000
set_option maxHeartbeats 4000000
namespace L2
open PySem PySem.Spec PyProof.Rows
/-! ### data are one -/
section
variable {H : Hp}
mutual
theorem Dat.fn : ∀ (d e : PyData) {v : V}, Dat H v d → Dat H v e → d = e
  | .none, e, v, h, g => by cases e <;> simp only [Dat] at h g <;> first | rfl | (subst h; first | (obtain ⟨_, _, z, _⟩ := g; cases z; done) | (cases g; done))
  | .bool _, e, v, h, g => by cases e <;> simp only [Dat] at h g <;> first | (subst h; first | (injection g with g; rw [g]; done) | (obtain ⟨_, _, z, _⟩ := g; cases z; done) | (cases g; done))
  | .int _, e, v, h, g => by cases e <;> simp only [Dat] at h g <;> first | (subst h; first | (injection g with g; rw [g]; done) | (obtain ⟨_, _, z, _⟩ := g; cases z; done) | (cases g; done))
  | .str _, e, v, h, g => by cases e <;> simp only [Dat] at h g <;> first | (subst h; first | (injection g with g; rw [g]; done) | (obtain ⟨_, _, z, _⟩ := g; cases z; done) | (cases g; done))
  | .list ds, .list es, v, h, g => by
    simp only [Dat] at h g
    obtain ⟨a, vs, rfl, ha, da⟩ := h
    obtain ⟨b, ws, e, hb, db⟩ := g
    injection e with e
    subst e
    rw [ha] at hb
    injection hb with hb
    injection hb with hb
    subst hb
    rw [Dats.fn ds es da db]
  | .tuple ds, .tuple es, v, h, g => by
    simp only [Dat] at h g
    obtain ⟨a, vs, rfl, ha, da⟩ := h
    obtain ⟨b, ws, e, hb, db⟩ := g
    injection e with e
    subst e
    rw [ha] at hb
    injection hb with hb
    injection hb with hb
    subst hb
    rw [Dats.fn ds es da db]
  | .list ds, .tuple es, v, h, g => by
    simp only [Dat] at h g
    obtain ⟨a, vs, rfl, ha, da⟩ := h
    obtain ⟨b, ws, e, hb, db⟩ := g
    injection e with e
    subst e
    rw [ha] at hb
    injection hb with hb
    cases hb
  | .tuple ds, .list es, v, h, g => by
    simp only [Dat] at h g
    obtain ⟨a, vs, rfl, ha, da⟩ := h
    obtain ⟨b, ws, e, hb, db⟩ := g
    injection e with e
    subst e
    rw [ha] at hb
    injection hb with hb
    cases hb
  | .list ds, .none, v, h, g => by simp only [Dat] at h g; obtain ⟨a, vs, rfl, _⟩ := h; cases g
  | .list ds, .bool _, v, h, g => by simp only [Dat] at h g; obtain ⟨a, vs, rfl, _⟩ := h; cases g
  | .list ds, .int _, v, h, g => by simp only [Dat] at h g; obtain ⟨a, vs, rfl, _⟩ := h; cases g
  | .list ds, .str _, v, h, g => by simp only [Dat] at h g; obtain ⟨a, vs, rfl, _⟩ := h; cases g
  | .tuple ds, .none, v, h, g => by simp only [Dat] at h g; obtain ⟨a, vs, rfl, _⟩ := h; cases g
  | .tuple ds, .bool _, v, h, g => by simp only [Dat] at h g; obtain ⟨a, vs, rfl, _⟩ := h; cases g
  | .tuple ds, .int _, v, h, g => by simp only [Dat] at h g; obtain ⟨a, vs, rfl, _⟩ := h; cases g
  | .tuple ds, .str _, v, h, g => by simp only [Dat] at h g; obtain ⟨a, vs, rfl, _⟩ := h; cases g
  | .list ds, .dict _, v, h, g => by simp only [Dat] at g
  | .tuple ds, .dict _, v, h, g => by simp only [Dat] at g
  | .dict _, _, v, h, g => by simp only [Dat] at h
theorem Dats.fn : ∀ (ds es : List PyData) {vs : List V}, Dats H vs ds → Dats H vs es → ds = es
  | [], [], _, _, _ => rfl
  | d :: ds, e :: es, v :: vs, h, g => by
    simp only [Dats] at h g
    rw [Dat.fn d e h.1 g.1, Dats.fn ds es h.2 g.2]
  | [], _ :: _, [], _, g => by simp only [Dats] at g
  | [], _ :: _, _ :: _, h, _ => by simp only [Dats] at h
  | _ :: _, [], [], h, _ => by simp only [Dats] at h
  | _ :: _, [], _ :: _, _, g => by simp only [Dats] at g
  | _ :: _, _ :: _, [], h, _ => by simp only [Dats] at h
end
end
/-! ### xs.index(x), of tuples -/
def rIndexD (K : PySem.W.Frag) : V → List V → Hp → VK → Prop := fun x vs H Q => ∃ (l : Addr) (as : List Addr) (w : V) (d : PyData) (ds : List PyData) (j : Nat) (e : PyData), x = .ref l ∧ vs = [w] ∧ SqL K H l (as.map V.ref) ∧ Dats H (as.map V.ref) ds ∧ Dat H w d ∧ SeqAt.shaped d = true ∧ (∀ e ∈ ds, SeqAt.shaped e = true) ∧
  ds[j]? = some e ∧ PyData.eqv e d = true ∧ (∀ m e', m < j → ds[m]? = some e' → PyData.eqv e' d = false) ∧ Q (.int j) H
section
variable {X : Cx}
open Classical in
noncomputable def idU (H : Hp) (d : PyData) (u : Value) : Bool := decide (∃ a e, u = .ref a ∧ Dat H (.ref a) e ∧ PyData.eqv e d = true)
open Classical in
theorem idU_of {H : Hp} {d e : PyData} {a : Addr} (h : Dat H (.ref a) e) : idU H d (.ref a) = PyData.eqv e d := by
  unfold idU
  rw [Bool.eq_iff_iff, decide_eq_true_iff]
  constructor
  · rintro ⟨b, e', eb, he, q⟩
    injection eb with eb
    subst eb
    rw [Dat.fn e e' h he]
    exact q
  · intro q
    exact ⟨a, e, rfl, h, q⟩
theorem mt_indexDK {K : PySem.W.Frag} (hK : X.K = K) (hu : X.A.in1.units + 64 < cLine) : MtR X "list.index" (rIndexD K) := by
  subst hK
  intro pins s σ H x vs v us Q I rx rv h
  obtain ⟨l, as, w, d, ds, j, e, rfl, rfl, hq, hds, hd, s1, s2, hj, hit, hno, q⟩ := h
  cases rx
  obtain ⟨u, rfl, ru⟩ := rv.one
  obtain ⟨its, r, pl, hz⟩ := I.list hq
  obtain ⟨bs, rd⟩ := I.reads d hd ru
  have ei := vals_refs r
  subst ei
  obtain ⟨o, ho, hc, n, hdd⟩ := pl.isList
  obtain ⟨c0, d0, dt, sl⟩ := o
  simp only at hc hdd
  subst hc hdd
  have dl : as.length = ds.length := by rw [← hds.length, List.length_map]
  have jl : j < as.length := by rw [dl]; exact (List.getElem?_eq_some_iff.mp hj).1
  have at_ : ∀ m (hm : m < as.length), ∃ e', ds[m]? = some e' ∧ Dat H (.ref as[m]) e' := fun m hm => by
    exact hds.get (i := m) (v := .ref as[m]) (by rw [List.getElem?_map, List.getElem?_eq_getElem hm]; rfl)
  have eqs : ∀ y ∈ (as.map Value.ref).toArray, SeqAt.EqAt X.A.in1 s y u (idU H d y) := fun y hy => by
    have hy : y ∈ as.map Value.ref := by simpa using hy
    obtain ⟨a, ha, rfl⟩ := List.mem_map.mp hy
    obtain ⟨m, hm, rfl⟩ := List.getElem_of_mem ha
    obtain ⟨e', ee, de⟩ := at_ m hm
    rw [idU_of de]
    obtain ⟨as', ra⟩ := I.reads e' de (u := .ref as[m]) rfl
    exact SeqAt.eqAt_reads e' d _ s _ u as' bs ra rd (SeqAt.canLay_of_shaped (s2 e' (List.mem_of_getElem? ee))) (SeqAt.canLay_of_shaped s1) (SeqAt.room_of_shaped (s2 e' (List.mem_of_getElem? ee)) hu)
  have l63 := line63
  have hz' : as.length ≤ sizeLine := by simpa using hz
  refine call_meets F.slot_list_index ⟨_, ho, rfl⟩ F.entry_list_index (F.args_list_index_2 _ _) (SeqAt.list_indexAt l (as.map Value.ref).toArray n d0 sl u (idU H d) j (by simpa using jl) (by omega) ?_ (fun m hm hmj => ?_)) ⟨ho, eqs, ⟨.int j, H, I.tok _, ⟨_, rfl⟩, q⟩⟩
  · obtain ⟨e', ee, de⟩ := at_ j jl
    rw [hj] at ee
    cases ee
    show idU H d ((as.map Value.ref).toArray[j]'(by simpa using jl)) = true
    simp only [List.getElem_toArray, List.getElem_map]
    rw [idU_of de]
    exact hit
  · have hm' : m < as.length := by simpa using hm
    obtain ⟨e', ee, de⟩ := at_ m hm'
    simp only [List.getElem_toArray, List.getElem_map]
    rw [idU_of de]
    exact hno m e' hmj ee
end
end L2
set_option Elab.async false
set_option linter.all false
set_option maxRecDepth 100000
set_option maxHeartbeats 4000000
namespace L2
open PySem PySem.Spec PyProof.Rows
/-! ### a comprehension one of whose own names is taken along by another one within -/
theorem one_cell {xc : Str} : ∀ (pre post : List (Str × NameKind)) (n : Nat) (acc : List (Str × Addr)) (h : Heap), (∀ y ∈ pre ++ post, y.2 ≠ .cell) →
    cellsFrom n (pre ++ (xc, .cell) :: post) acc = (xc, n) :: acc ∧ pushCells h (pre ++ (xc, .cell) :: post) = h.push { cls := .type "cell", data := .cell none }
  | (m, k) :: pre, post, n, acc, h, hn => by
    have hk : (k == NameKind.cell) = false := by simpa using hn (m, k) (by simp)
    have ih := one_cell (xc := xc) pre post n acc h fun y hy => hn y (by simp only [List.cons_append, List.mem_cons]; exact .inr hy)
    rw [List.cons_append]
    unfold cellsFrom pushCells
    simp only [hk, Bool.false_eq_true, if_false]
    exact ih
  | [], post, n, acc, h, hn => by
    have none_cell : ∀ (post : List (Str × NameKind)) (n : Nat) (acc : List (Str × Addr)) (h : Heap), (∀ y ∈ post, y.2 ≠ .cell) → cellsFrom n post acc = acc ∧ pushCells h post = h := by
      intro post
      induction post with
      | nil => intro n acc h _; exact ⟨rfl, rfl⟩
      | cons y r ih =>
        intro n acc h hh
        obtain ⟨m, k⟩ := y
        have hk : (k == NameKind.cell) = false := by simpa using hh (m, k) (by simp)
        unfold cellsFrom pushCells
        simp only [hk, Bool.false_eq_true, if_false]
        exact ih n acc h fun y hy => hh y (List.mem_cons_of_mem _ hy)
    rw [List.nil_append]
    unfold cellsFrom pushCells
    simp only [beq_self_eq_true, if_true]
    exact none_cell post (n + 1) ((xc, n) :: acc) _ fun y hy => hn y (by simpa using hy)
structure CompScopeC (N own : List Str) (caps : List Nat) (XN : List Str) (outer scope : Scope) (xc : Str) : Prop where
  kind : scope.kind = .function
  one : ∃ pre post, scope.names = pre ++ (xc, .cell) :: post ∧ ∀ y ∈ pre ++ post, y.2 ≠ .cell
  xcl : scope.names.lookup xc = some .cell
  nof : (xc, NameKind.free) ∉ scope.names
  names : ∀ y ∈ scope.names, y.2 = .local → scope.names.lookup y.1 = some .local
  free : ∀ y ∈ scope.names, y.2 = .free → outer.names.lookup y.1 = some .cell ∨ outer.names.lookup y.1 = some .free
  nd : N.Nodup
  len : N.length = own.length + caps.length
  cap : ∀ (j : Nat), j < caps.length → N[own.length + j]? = XN[caps.getD j 0]? ∧ ∃ x, N[own.length + j]? = some x ∧ (x, NameKind.free) ∈ scope.names ∧ scope.names.lookup x = some .free
def cxCompC (X : Cx) (scope : Scope) (xc : Str) (C : Addr) (N : List Str) (s : Shared) (H : Hp) (fp : List Addr) : Cx :=
  { X with N := N, s₀ := s, H₀ := H, env := compEnvC scope ((xc, Nat.succ C) :: clOf X.env scope.names []) C X.env, outer := X.stack, ex := fp, fn := fun y => decide (y = xc), pn := [], xe := fun _ _ => False }
section
variable {X : Cx} {pins : List (Addr × Obj)} {σ : St} {H : Hp} {s : Shared} {scope : Scope} {N own : List Str} {caps : List Nat} {fp : List Addr} {C : Nat} {xc : Str}
theorem CompScopeC.csome (S : CompScopeC N own caps X.N X.env.scope scope xc) (ok : X.Ok) : ∀ y ∈ scope.names, y.2 = .free → (X.env.cells.lookup y.1).isSome = true := fun y hy hf => by
  obtain ⟨c, e⟩ := ok.has y.1 (S.free y hy hf)
  rw [e]; rfl
theorem CompScopeC.csub (S : CompScopeC N own caps X.N X.env.scope scope xc) (ok : X.Ok) {x : Str} {c : Addr} (h : (clOf X.env scope.names []).lookup x = some c) : X.env.cells.lookup x = some c := by
  rw [clOf_lookup _ _ _ (S.csome ok)] at h
  split at h
  · exact h
  · simp at h
theorem CompScopeC.look (S : CompScopeC N own caps X.N X.env.scope scope xc) (ok : X.Ok) {x : Str} {c : Addr} (h : ((xc, Nat.succ C) :: clOf X.env scope.names []).lookup x = some c) : (x = xc ∧ c = Nat.succ C) ∨ (x ≠ xc ∧ X.env.cells.lookup x = some c) := by
  rw [List.lookup_cons] at h
  cases q : x == xc with
  | true => rw [q] at h; exact .inl ⟨by simpa using q, (Option.some.inj h).symm⟩
  | false => rw [q] at h; exact .inr ⟨by simpa using q, S.csub ok h⟩
theorem CompScopeC.cell1 (S : CompScopeC N own caps X.N X.env.scope scope xc) {x : Str} (h : (x, NameKind.cell) ∈ scope.names) : x = xc := by
  obtain ⟨pre, post, e, no⟩ := S.one
  rw [e] at h
  rcases List.mem_append.mp h with h | h
  · exact absurd rfl (no _ (List.mem_append_left _ h))
  · rcases List.mem_cons.mp h with h | h
    · exact congrArg Prod.fst h
    · exact absurd rfl (no _ (List.mem_append_right _ h))
theorem CompScopeC.lookFree {S : CompScopeC N own caps X.N X.env.scope scope xc} {x : Str} (h : (relabel scope X.env).names.lookup x = some .cell ∨ (relabel scope X.env).names.lookup x = some .free) : x = xc ∨ (x, NameKind.free) ∈ scope.names := by
  have e := relabel_lookup X.env scope.names x
  have e' : (relabel scope X.env).names.lookup x = (scope.names.lookup x).map fun k => if (k == .free && X.env.scope.kind == .function && X.env.kindOf x == some .cell) = true then NameKind.cell else k := e
  rw [e'] at h
  cases q : scope.names.lookup x with
  | none => rw [q] at h; simp at h
  | some k =>
    have hm := PySem.mem_of_lookup q
    by_cases hk : k = .free
    · subst hk; exact .inr hm
    · rw [q] at h
      have hb : (k == NameKind.free) = false := by simpa using hk
      simp only [Option.map_some, hb, Bool.false_and, Bool.false_eq_true, if_false] at h
      rcases h with h | h
      · have hc := Option.some.inj h
        subst hc
        exact .inl (S.cell1 hm)
      · exact absurd (Option.some.inj h) hk

/-- the block's context is in order, and its names stand -/
theorem Inv.compC {h1 : Heap} {D : Nat} (I : Inv X pins σ H s) (S : CompScopeC N own caps X.N X.env.scope scope xc) (hfp : ∀ b ∈ fp, FpOk X pins H b) (hfo : ∀ b ∈ fp, ∃ o, s.heap.get? b = some o)
    (hD : D = s.heap.objs.size) (hC : C = s.heap.objs.size + 1) (old : ∀ b o, s.heap.get? b = some o → h1.get? b = some o) (hns : h1.Ns C (fun _ => none)) (hl : h1.get? D = some { cls := .type "list", data := .seq #[] }) (hce : h1.IsCell (Nat.succ C) none) {t : Nat} :
    Inv (cxCompC X scope xc C N s H fp) [] (st0 own caps σ) (upd H D (.lst [])) { s with heap := h1, toks := t } := by
  have some' := S.csome I.ok
  have look : ∀ {x c}, ((xc, Nat.succ C) :: clOf X.env scope.names []).lookup x = some c → (x = xc ∧ c = Nat.succ C) ∨ (x ≠ xc ∧ X.env.cells.lookup x = some c) := fun h => S.look I.ok h
  have freshD : H D = none := I.hok.fresh (by rw [hD]; exact Nat.le_refl _)
  have freshC : H C = none := I.hok.fresh (by rw [hC]; exact Nat.le_succ _)
  have freshE : H (Nat.succ C) = none := I.hok.fresh (by show s.heap.objs.size ≤ Nat.succ C; omega)
  have cellLt : ∀ x c, X.env.cells.lookup x = some c → c < s.heap.objs.size := fun x c e => by
    obtain ⟨v, z⟩ := I.cell x c e
    exact z.lt
  have fpLt : ∀ b ∈ fp, b < s.heap.objs.size := fun b hb => by
    obtain ⟨o, e⟩ := hfo b hb
    exact Heap.lt_size e
  have DC : D ≠ C := by omega
  refine ⟨⟨I.ok.mod, S.kind, I.ok.glob, I.ok.blt, by show s.heap.objs.size ≤ C; omega, fun x y c e1 e2 => ?inj, fun x h => ?_, fun x c h e => ?cab, I.ok.hd, I.ok.frames, Or.inl rfl, fun b hb => ⟨?_, fun x c e => ?_⟩, I.bs, Nat.le_trans I.ok.bsz I.sz, fun b o e hb => ?_, fun b hb z => ?_, I.stack, I.stkFree⟩,
    rfl, I.bare, Un.laid old (by show s.heap.objs.size ≤ D; omega) freshD, ⟨_, hns, fun j x v e1 e2 e3 => ?_⟩, fun x c e => ?_, ?_, fun x c e => ?_, fun p hp => ?_, I.hok.laid old (by omega) ?_, ?_⟩
  case inj =>
    rcases look e1 with ⟨a1, a2⟩ | ⟨a1, a2⟩
    · rcases look e2 with ⟨b1, b2⟩ | ⟨b1, b2⟩
      · exact a1.trans b1.symm
      · have := natlt (cellLt y c b2); omega
    · rcases look e2 with ⟨b1, b2⟩ | ⟨b1, b2⟩
      · have := natlt (cellLt x c a2); omega
      · exact I.ok.inj x y c a2 b2
  case cab =>
    rcases look e with ⟨a1, a2⟩ | ⟨a1, a2⟩
    · show s.heap.objs.size ≤ c; omega
    · exact absurd (of_decide_eq_true h) a1
  · show ∃ c, ((xc, Nat.succ C) :: clOf X.env scope.names []).lookup x = some c
    by_cases ex : x = xc
    · subst ex; exact ⟨Nat.succ C, by simp [List.lookup_cons]⟩
    · have hm := (CompScopeC.lookFree (S := S) (X := X) h).resolve_left ex
      obtain ⟨c, e⟩ := Option.isSome_iff_exists.mp (some' _ hm rfl)
      have q : (x == xc) = false := by simpa using ex
      exact ⟨c, by rw [List.lookup_cons, q, clOf_lookup _ _ _ some', if_pos hm]; exact e⟩
  · exact Nat.ne_of_lt (show @LT.lt Nat _ b C by have := natlt (fpLt b hb); omega)
  · rcases look e with ⟨a1, a2⟩ | ⟨a1, a2⟩
    · have := natlt (fpLt b hb)
      subst a2
      exact Nat.ne_of_gt (show @LT.lt Nat _ b (Nat.succ C) by omega)
    · exact (hfp b hb).2.2.2.2.1 x c a2
  · rcases (hfp b hb).2.2.2.1 with z | z
    · exact I.ok.noex b o e z
    · exact absurd (Nat.lt_of_lt_of_le (Heap.lt_size e) (Nat.le_trans I.ok.bsz z)) (Nat.lt_irrefl _)
  · rcases List.mem_cons.mp (I.stkSub b z) with q | q
    · exact (hfp b hb).2.1 q
    · exact (hfp b hb).2.2.1 q
  · have e1 : N[j]? = some x := e1
    have hj : own.length ≤ j := by
      by_cases q : own.length ≤ j
      · exact q
      · exfalso
        unfold st0 at e2
        rw [List.getElem?_append_left (by simp; omega), List.getElem?_map] at e2
        cases r : own[j]? with
        | none => rw [r] at e2; cases e2
        | some a => rw [r] at e2; cases e2
    have hjl : j < N.length := (List.getElem?_eq_some_iff.mp e1).1
    have hjc : j - own.length < caps.length := by have := S.len; omega
    obtain ⟨c1, x', c2, c3, c4⟩ := S.cap (j - own.length) hjc
    rw [show own.length + (j - own.length) = j by omega] at c1 c2
    rw [e1] at c2
    cases c2
    have e2' : (σ[caps.getD (j - own.length) 0]?).join = some v := by
      unfold st0 at e2
      rw [List.getElem?_append_right (by simp; omega), List.getElem?_map, List.length_map] at e2
      rw [List.getD_eq_getElem?_getD]
      cases r : caps[j - own.length]? with
      | none => rw [r] at e2; cases e2
      | some a => rw [r] at e2; exact Option.some.inj e2
    have e2'' : σ[caps.getD (j - own.length) 0]? = some (some v) := by
      cases r : σ[caps.getD (j - own.length) 0]? with
      | none => rw [r] at e2'; cases e2'
      | some a => rw [r] at e2'; exact congrArg Option.some e2'
    have kx : X.env.kindOf x = some .cell ∨ X.env.kindOf x = some .free := S.free _ c3 rfl
    obtain ⟨m, hn, hl'⟩ := I.loc
    obtain ⟨u, r, l⟩ := hl' _ x v (by rw [← c1]; exact e1) e2'' (by rcases kx with z | z; exact .inr (.inl z); exact .inr (.inr z))
    refine ⟨u, r, .inr ⟨?_, ?_⟩⟩
    · show (relabel scope X.env).names.lookup x = some .cell ∨ (relabel scope X.env).names.lookup x = some .free
      have e : (relabel scope X.env).names.lookup x = (scope.names.lookup x).map fun k => if (k == .free && X.env.scope.kind == .function && X.env.kindOf x == some .cell) = true then NameKind.cell else k := relabel_lookup X.env scope.names x
      rw [e, c4, Option.map_some]
      split
      · exact .inl rfl
      · exact .inr rfl
    · rcases l with ⟨hk, _⟩ | ⟨_, c, hc, z⟩
      · rcases kx with q | q <;> rw [hk] at q <;> cases q
      · refine ⟨c, ?_, ?_⟩
        · show ((xc, Nat.succ C) :: clOf X.env scope.names []).lookup x = _
          have nx : x ≠ xc := fun z => S.nof (z ▸ c3)
          have q : (x == xc) = false := by simpa using nx
          rw [List.lookup_cons, q, clOf_lookup _ _ _ some', if_pos c3]; exact hc
        · obtain ⟨o, ho, hd⟩ := z
          exact ⟨o, old c o ho, hd⟩
  · rcases look e with ⟨a1, a2⟩ | ⟨a1, a2⟩
    · subst a2; exact ⟨none, hce⟩
    · obtain ⟨v, o, ho, hd⟩ := I.cell x c a2
      exact ⟨v, o, old c o ho, hd⟩
  · show upd H D (.lst []) C = none
    rw [upd_ne DC.symm]; exact freshC
  · show upd H D (.lst []) c = none
    rcases look e with ⟨a1, a2⟩ | ⟨a1, a2⟩
    · subst a2
      rw [upd_ne (show Nat.succ C ≠ D by omega)]; exact freshE
    · rw [upd_ne (Nat.ne_of_lt (by have := natlt (cellLt x c a2); omega))]; exact I.freeC x c a2
  · cases hp
  · exact ⟨Nat.zero_le _, [], 0, .nil, hl⟩
  · show (own.map (fun _ => none) ++ caps.map _).length = N.length
    rw [List.length_append, List.length_map, List.length_map, S.len]

/-- behind the block -/
theorem Inv.uncompC {pins' : List (Addr × Obj)} {σ' : St} {H' : Hp} {s' : Shared} {h' : Heap} (I : Inv X pins σ H s) (hfp : ∀ b ∈ fp, FpOk X pins H b) (hC : s.heap.objs.size ≤ C) (J : Inv (cxCompC X scope xc C N s H fp) pins' σ' H' s') (hs : Heap.SameBut C s'.heap h') :
    Inv X pins σ H' { s' with heap := h' } := by
  have nC : ∀ b o, s.heap.get? b = some o → b ≠ C := fun b o e => Nat.ne_of_lt (by have := natlt (Heap.lt_size e); omega)
  have u := J.base
  have frC : H' C = none := J.free
  refine I.call' (ch := fp) (s' := { s' with heap := h' }) J.os ⟨fun b o e n hb hx => ?_, fun b o e n hb hx => ?_, u.free, fun b o e hx => ?_, u.tups, u.frzs, u.tbls⟩ (fun a o e => (J.hok a o e).stay (fun b v hb q => ?_) (fun _ q => q) fun _ _ q => q) J.bare fun b hb => ?_
  · exact (hs.2 b (nC b o e)).trans (u.keep b o e n hb hx)
  · obtain ⟨sl, q⟩ := u.slot b o e n hb hx
    exact ⟨sl, (hs.2 b (nC b o e)).trans q⟩
  · obtain ⟨o', q⟩ := u.there b o e hx
    exact ⟨o', (hs.2 b (nC b o e)).trans q⟩
  · refine (hs.2 b ?_).trans q
    intro z
    subst z
    rcases hb with z | z
    · subst z; rw [frC] at e; cases e
    · rw [frC] at z; cases z
  · exact ⟨(hfp b hb).2.2.2.1, (hfp b hb).2.1, (hfp b hb).2.2.2.2.1, (hfp b hb).2.2.2.2.2⟩
end

section
variable {M : Model} {A : Around} {E : Value → Shared → Prop} {s : Shared}
theorem newEnv_one {scope : Scope} {globals : Addr} {cl : List (Str × Addr)} {qual : Str} {env : Env} {xc : Str} {Q : Env → Shared → Prop} (one : ∃ pre post, scope.names = pre ++ (xc, .cell) :: post ∧ ∀ y ∈ pre ++ post, y.2 ≠ .cell)
    (h : Q (newEnv scope s.heap.objs.size globals ((xc, Nat.succ s.heap.objs.size) :: cl) qual none .none (some env) builtinsNs) { s with heap := (s.heap.push { cls := .type "dict", data := .dict #[] }).push { cls := .type "cell", data := .cell none } }) :
    wpAny M A (newFunctionEnv scope globals cl [] qual none .none (some env)) Q E s := by
  obtain ⟨pre, post, e, no⟩ := one
  simp only [newFunctionEnv, Option.isSome_some, if_true]
  refine wpAny_bind (wpAny_alloc ?_)
  refine wpAny_bind (wpAny_layCells _ (fun name kind cells => by cases hkc : kind == NameKind.cell <;> simp [hkc]) _ _ _ _ ?_)
  rw [e]
  have sz : (s.heap.push { cls := .type "dict", data := .dict #[] }).objs.size = Nat.succ s.heap.objs.size := Heap.size_push ..
  obtain ⟨e1, e2⟩ := one_cell (xc := xc) pre post (s.heap.push { cls := .type "dict", data := .dict #[] }).objs.size cl (s.heap.push { cls := .type "dict", data := .dict #[] }) no
  show wpAny M A _ Q E _
  dsimp only
  rw [e1, e2, sz]
  rw [List.forIn_nil]
  exact wpAny_bind (wpAny_pure (wpAny_pure h))
end
section
variable {X : Cx} {elt tg iter : Expr} {ifs : List Expr} {scope : Scope} {pos : Pos} {N own : List Str} {caps : List Nat} {wi : TI} {g : TG} {tc : TT} {te : TE} {xc : Str}
/-- the block run: from the iterator to the list -/
theorem comp_runC {use : Option (Value → Sem Unit)} {Qv : Value → Shared → Prop} {pins : List (Addr × Obj)} {σ : St} {H : Hp} {s : Shared} {Q : VK} (hc : X.calm = true) (S : CompScopeC N own caps X.N X.env.scope scope xc)
    (hg : ∀ C s H fp, PG (cxCompC X scope xc C N s H fp) tg g) (hcs : ∀ C s H fp, PTs (cxCompC X scope xc C N s H fp) ifs tc) (he : ∀ C s H fp, PE (cxCompC X scope xc C N s H fp) elt te)
    (hi : PI X tg iter wi) (hs : ∀ x, foldedSetIterable iter X.env x = pure x)
    (I : Inv X pins σ H s) (h : tComp own caps wi g tc te σ H Q)
    (fin : ∀ (D C : Addr) (H' : Hp) (s' : Shared), (∃ m, s'.heap.Ns C m) → Inv X pins σ H' s' → (∀ h', Heap.SameBut C s'.heap h' → Inv X pins σ H' { s' with heap := h' }) → FpOk X pins H' C → Q (.ref D) H' →
      compPost (model X.prog X.w) X.A X.xe use Qv (.ref D) C (.ok .next) s') :
    wpAny (model X.prog X.w) X.A (comprehension (.ListComp elt [⟨tg, iter, ifs, 0⟩] scope pos) scope X.env (firstIterPos [⟨tg, iter, ifs, 0⟩] pos) (newList []) false (eval iter X.env) use) Qv X.xe s := by
  refine wpAny_comprehension_free (use := use) rfl hs (closure_eq (S.csome I.ok)) S.kind S.names (thn (hi pins s σ H _ I h) fun xv s1 h1 => thn h1 fun itv s2 h2 => ?_)
  obtain ⟨it, fp, tn, J, H2, e, I2, T, st2, f2, q2⟩ := h2
  subst e
  refine wpAny_newList ?_
  refine newEnv_one S.one ?_
  have hD : H2 s2.heap.objs.size = none := I2.hok.fresh (Nat.le_refl _)
  have hsz : (s2.heap.push { cls := .type "list", data := .seq ([] : List Value).toArray }).objs.size = s2.heap.objs.size + 1 := Heap.size_push ..
  obtain ⟨h1, hh1⟩ : ∃ h1, h1 = ((s2.heap.push { cls := .type "list", data := .seq ([] : List Value).toArray }).push { cls := .type "dict", data := .dict #[] }).push { cls := .type "cell", data := .cell none } := ⟨_, rfl⟩
  have old : ∀ b o, s2.heap.get? b = some o → h1.get? b = some o := fun b o e => by
    rw [hh1]; exact Heap.get?_push_of_some _ (Heap.get?_push_of_some _ (Heap.get?_push_of_some _ e))
  have hl : h1.get? s2.heap.objs.size = some { cls := .type "list", data := .seq #[] } := by
    rw [hh1]; exact Heap.get?_push_of_some _ (Heap.get?_push_of_some _ (Heap.get?_push_size _ rfl))
  have hns1 : h1.Ns (s2.heap.push { cls := .type "list", data := .seq ([] : List Value).toArray }).objs.size (fun _ => none) := by
    rw [hh1]; exact (Heap.Ns.new _ (.type "dict")).keeps fun b o e => Heap.get?_push_of_some _ e
  have hce : h1.IsCell (Nat.succ (s2.heap.push { cls := .type "list", data := .seq ([] : List Value).toArray }).objs.size) none := by
    rw [hh1]
    refine ⟨{ cls := .type "cell", data := .cell none }, ?_, rfl⟩
    have e : Nat.succ (s2.heap.push { cls := .type "list", data := .seq ([] : List Value).toArray }).objs.size = ((s2.heap.push { cls := .type "list", data := .seq ([] : List Value).toArray }).push { cls := .type "dict", data := .dict #[] }).objs.size := (Heap.size_push ..).symm
    rw [e]
    exact Heap.get?_push_size _ rfl
  rw [← hh1]
  have hfo : ∀ b ∈ fp, ∃ o, s2.heap.get? b = some o := fun b hb => let ⟨o, e, _⟩ := T.obj _ _ st2 b hb; ⟨o, e⟩
  have I4 := Inv.compC (C := (s2.heap.push { cls := .type "list", data := .seq ([] : List Value).toArray }).objs.size) (t := s2.toks) I2 S f2 hfo rfl hsz old hns1 hl hce
  obtain ⟨W, ⟨m0, w0⟩, turn⟩ := q2 _ hD
  generalize hCe : (s2.heap.push { cls := .type "list", data := .seq ([] : List Value).toArray }).objs.size = C at *
  generalize hDe : s2.heap.objs.size = D at *
  have hDC : D ≠ C := by omega
  -- the loop
  have loop : ∀ s3 : Shared, s3 = { s2 with heap := h1 } →
      codeAny (model X.prog X.w) X.A (.compLoop (.ListComp elt [⟨tg, iter, ifs, 0⟩] scope pos) 0 (.ref it) (.ref D) (cxCompC X scope xc C N s2 H2 fp).env) (compPost (model X.prog X.w) X.A X.xe use Qv (.ref D) C) s3 := by
    rintro s3 rfl
    have frz : ∀ b ∈ fp, (upd H2 D (.lst [])) b = none := fun b hb => by
      obtain ⟨o, e⟩ := hfo b hb
      rw [upd_ne (Nat.ne_of_lt (by have := natlt (Heap.lt_size e); omega))]
      exact (f2 b hb).1
    have stat : ∀ {H' : Hp}, (∀ b ∈ fp, H' b = none) → ∀ b ∈ fp, FpOk (cxCompC X scope xc C N s2 H2 fp) [] H' b := fun hn b hb => by
      obtain ⟨o, e⟩ := hfo b hb
      have hlt := natlt (Heap.lt_size e)
      refine ⟨hn b hb, ?_, fun z => ?_, .inl hb, fun x c e' => ?_, fun p hp => (by cases hp)⟩
      · exact Nat.ne_of_lt (show @LT.lt Nat _ b C by omega)
      · rcases List.mem_cons.mp (I2.stkSub b z) with q | q
        · exact (f2 b hb).2.1 q
        · exact (f2 b hb).2.2.1 q
      · rcases S.look (C := C) I2.ok e' with ⟨_, a2⟩ | ⟨_, a2⟩
        · subst a2
          exact Nat.ne_of_gt (show @LT.lt Nat _ b (Nat.succ C) by omega)
        · exact (f2 b hb).2.2.2.2.1 x c a2
    refine compLoop_any (fun n s' => ∃ i σ' H', Inv (cxCompC X scope xc C N s2 H2 fp) [] σ' H' s' ∧ tn i s'.heap ∧ (∀ b ∈ fp, H' b = none) ∧ W i n σ' H') ?_ m0
      ⟨0, _, _, I4, T.keep _ _ _ st2 fun b _ o e => old b o e, frz, w0⟩
    rintro n s3 ⟨i, σ3, H3, I3, st3, fr3, w3⟩
    rcases turn i n σ3 H3 w3 with ⟨stop, qn⟩ | ⟨go, Nx, hNx, step⟩
    · refine thn (T.done (cxCompC X scope xc C N s2 H2 fp) rfl rfl rfl hc i [] s3 σ3 H3 _ I3 (stat fr3) st3 stop) fun r s4 ⟨hr, J4⟩ => ?_
      subst hr
      obtain ⟨m4, hn4, _⟩ := J4.loc
      exact fin D C H3 s4 ⟨m4, hn4⟩ (I2.uncompC f2 (by omega) J4 (Heap.SameBut.refl _ _)) (fun h' hs' => I2.uncompC f2 (by omega) J4 hs') (I2.fpOk (show s2.heap.objs.size ≤ C by omega) J4.free) qn
    · refine thn (T.item (cxCompC X scope xc C N s2 H2 fp) rfl rfl rfl hc i [] s3 σ3 H3 _ I3 (stat fr3) st3 go) fun r s4 ⟨u, hr, h4⟩ => ?_
      subst hr
      refine thn h4 fun _ s5 ⟨x, H5, I5, r5, y5, st5, fr5⟩ => ?_
      have I5' := I5.pinned (stat fr5) (T.obj _ _ st5)
      refine thn (hg C s2 H2 fp _ s5 σ3 H5 x u _ I5' r5 (step x H5 y5)) fun _ s6 ⟨σ6, H6, I6, q6⟩ => ?_
      refine thn (hcs C s2 H2 fp _ s6 σ6 H6 _ I6 q6) fun ok s7 ⟨H7, I7, q7⟩ => ?_
      have again : ∀ {σ8 : St} {H8 : Hp} {s8 : Shared}, Inv (cxCompC X scope xc C N s2 H2 fp) ([] ++ pinsAt fp s5.heap) σ8 H8 s8 → Nx σ8 H8 → ∃ m, m < n ∧ ∃ i σ' H', Inv (cxCompC X scope xc C N s2 H2 fp) [] σ' H' s8 ∧ tn i s8.heap ∧ (∀ b ∈ fp, H' b = none) ∧ W i m σ' H' := fun {σ8 H8 s8} I8 n8 => by
        obtain ⟨m', hm, w8⟩ := hNx _ _ n8
        refine ⟨m', hm, i + 1, σ8, H8, I8.unpinned, T.keep _ _ _ st5 fun b hb o e => (I8.pin (b, o) (List.mem_append_right _ (List.mem_append_right _ (mem_pinsAt hb e)))).1, fun b hb => ?_, w8⟩
        obtain ⟨o, e, d⟩ := T.obj _ _ st5 b hb
        exact (I8.pin (b, o) (List.mem_append_right _ (List.mem_append_right _ (mem_pinsAt hb e)))).2.1
      cases ok with
      | false =>
        rw [if_neg (by decide)] at q7
        exact again I7 q7
      | true =>
        rw [if_pos rfl] at q7
        refine thn (he C s2 H2 fp _ s7 σ6 H7 _ I7 q7) fun y s8 ⟨yv, H8, I8, r8, acc, ha, hlen, q8⟩ => ?_
        exact thn (mt_append _ s8 σ6 H8 (.ref D) [yv] (.ref D) [y] (fun v H9 => Nx σ6 H9) I8 rfl (.cons r8 .nil) ⟨D, acc, yv, rfl, rfl, ha, hlen, q8⟩) fun _ s9 ⟨_, H9, I9, _, q9⟩ => again I9 q9
  exact codeAny_compStart_list (loop _ rfl) (T.self _ 0 _ _ _ (T.keep _ _ _ st2 fun b _ o e => old b o e) (loop _ rfl))

/-- x = [e for ..] on one row: the name is stored ahead of the block's names being let go -/
theorem ps_setCC {i : Nat} {x : Str} {px sp : Pos} (hc : X.calm = true) (hN : X.N.Nodup) (hx : X.N[i]? = some x) (hl : Loc X.env.scope x) (S : CompScopeC N own caps X.N X.env.scope scope xc) (hi : PI X tg iter wi)
    (hg : ∀ C s H fp, PG (cxCompC X scope xc C N s H fp) tg g) (hcs : ∀ C s H fp, PTs (cxCompC X scope xc C N s H fp) ifs tc) (he : ∀ C s H fp, PE (cxCompC X scope xc C N s H fp) elt te)
    (hsw : swapsWith (.ListComp elt [⟨tg, iter, ifs, 0⟩] scope pos) (some (.Name x px)) sp.line X.env = pure true := by rfl)
    (hs : ∀ x, foldedSetIterable iter X.env x = pure x := by intro _; rfl) (hf : X.fn x = true ∨ X.env.scope.names.lookup x = some .local := by first | exact .inl rfl | exact .inr rfl | assumption) :
    PS X (.Assign [.Name x px] (.ListComp elt [⟨tg, iter, ifs, 0⟩] scope pos) sp) (tAsg (tComp own caps wi g tc te) (gName i)) := by
  intro pins s σ H D I h
  rw [exec_Assign_Name_used _ _ _ _ hsw]
  refine wpAny_bind (wpAny_standAt (wpAny_bind ?_))
  show wpAny _ X.A (do let _ ← comprehension (.ListComp elt [⟨tg, iter, ifs, 0⟩] scope pos) scope X.env (firstIterPos [⟨tg, iter, ifs, 0⟩] pos) (newList []) false (eval iter X.env) (some (assign (.Name x px) X.env))) _ _ s
  refine wpAny_bind (wpAny_mono (comp_runC (use := some (assign (.Name x px) X.env)) (Qv := fun _ s' => SP X pins D .next s') hc S hg hcs he hi hs I h ?_) (fun _ s' hq => wpAny_pure (wpAny_pure hq)) fun _ _ e => e)
  intro E C H' s' hn I' hk fC q
  obtain ⟨m, hn⟩ := hn
  obtain ⟨f0, f1, f2, f3, f4, f5⟩ := fC
  show wpAny _ X.A (assign (.Name x px) X.env (.ref E)) _ _ _
  refine wpAny_assign_Name (store_ok2 I' hN hx hl (v := .ref E) rfl (fun s2 I2 k => ?_) hf)
  refine ⟨m, ?_, fun h' hs' => ?_⟩
  · obtain ⟨o, es, ep, ho, r⟩ := hn
    obtain ⟨a, ks, ka⟩ := k
    have hCa : C ≠ a := fun z => by
      rcases ka with q' | q'
      · exact f1 (z.trans q')
      · exact f4 x a q' z.symm
    exact ⟨o, es, ep, (ks.2 C hCa).trans ho, r⟩
  · exact ⟨_, H', I2.turned (t' := s2.toks) (fun b o hb e => (hs'.2 b hb).trans e) f0 f1 f3 f4 f5, q⟩
end
/-- the names of a block, checked -/
def compOkC (N own : List Str) (caps : List Nat) (XN : List Str) (outer scope : Scope) (xc : Str) : Bool :=
  decide (scope.kind = .function) && (scope.names.filter fun y => decide (y.2 = .cell)).length == 1 && decide (scope.names.lookup xc = some .cell) && decide ((xc, NameKind.free) ∉ scope.names) && scope.names.all (fun y => decide (y.2 ≠ .local) || decide (scope.names.lookup y.1 = some .local)) &&
  scope.names.all (fun y => decide (y.2 ≠ .free) || decide (outer.names.lookup y.1 = some .cell) || decide (outer.names.lookup y.1 = some .free)) && decide N.Nodup && decide (N.length = own.length + caps.length) &&
  (List.range caps.length).all (fun j => match N[own.length + j]? with | some x => decide (XN[caps.getD j 0]? = some x) && decide ((x, NameKind.free) ∈ scope.names) && decide (scope.names.lookup x = some .free) | none => false)
theorem CompScopeC.of {N own : List Str} {caps : List Nat} {XN : List Str} {outer scope : Scope} {xc : Str} (h : compOkC N own caps XN outer scope xc = true) : CompScopeC N own caps XN outer scope xc := by
  unfold compOkC at h
  simp only [Bool.and_eq_true, decide_eq_true_eq, List.all_eq_true, Bool.or_eq_true, beq_iff_eq] at h
  obtain ⟨⟨⟨⟨⟨⟨⟨⟨h1, h2⟩, h2a⟩, h2b⟩, h3⟩, h4⟩, h5⟩, h6⟩, h7⟩ := h
  refine ⟨h1, ?_, h2a, h2b, fun y hy e => ?_, fun y hy e => ?_, h5, h6, fun j hj => ?_⟩
  · have hm : (xc, NameKind.cell) ∈ scope.names := mem_of_lookup h2a
    obtain ⟨pre, post, e⟩ := List.append_of_mem hm
    refine ⟨pre, post, e, fun y hy z => ?_⟩
    rw [e, List.filter_append, List.length_append, List.filter_cons] at h2
    simp only [decide_true, if_true, List.length_cons] at h2
    have l1 : (pre.filter fun y => decide (y.2 = .cell)).length = 0 := by omega
    have l2 : (post.filter fun y => decide (y.2 = .cell)).length = 0 := by omega
    rcases List.mem_append.mp hy with q | q
    · have := List.filter_eq_nil_iff.mp (List.eq_nil_of_length_eq_zero l1) y q
      simp [z] at this
    · have := List.filter_eq_nil_iff.mp (List.eq_nil_of_length_eq_zero l2) y q
      simp [z] at this
  · rcases h3 y hy with z | z
    · exact absurd e z
    · exact z
  · rcases h4 y hy with (z | z) | z
    · exact absurd e z
    · exact .inl z
    · exact .inr z
  · have q := h7 j (List.mem_range.mpr hj)
    cases e : N[own.length + j]? with
    | none => rw [e] at q; cases q
    | some x =>
      rw [e] at q
      simp only [Bool.and_eq_true, decide_eq_true_eq] at q
      exact ⟨q.1.1.symm, x, rfl, q.1.2, q.2⟩
theorem cxCompC_fn {X : Cx} {scope : Scope} {xc : Str} {C : Addr} {N : List Str} {s : Shared} {H : Hp} {fp : List Addr} : (cxCompC X scope xc C N s H fp).fn xc = true := decide_eq_true (p := xc = xc) rfl
end L2
set_option Elab.async false
set_option linter.all false
set_option maxRecDepth 100000
set_option maxHeartbeats 4000000
namespace Tim
open PySem PyProof.Rows
/-! ### list.sort of any length: the order of the keys as a rank -/
section
variable {prog : Program} {w : World} {A : Around} {E : Value → Shared → Prop} {s : Shared} {κ : SortKind} {a₀ : Array Keyed} {rk : Value → Nat}
def R (rk : Value → Nat) (xs : Array Keyed) (i : Nat) : Nat := match xs[i]? with
  | some p => rk p.1
  | none => 0
def Seg (rk : Value → Nat) (xs : Array Keyed) (lo hi : Nat) : Prop := ∀ i j, lo ≤ i → i ≤ j → j < hi → R rk xs i ≤ R rk xs j
end
end Tim
set_option Elab.async false
set_option linter.all false
set_option maxRecDepth 100000
set_option maxHeartbeats 4000000
namespace Tim
open PySem PyProof.Rows
section
variable {rk : Value → Nat} {a b out : Array Keyed} {ia ib k : Nat}
end
end Tim
set_option Elab.async false
set_option linter.all false
set_option maxRecDepth 100000
set_option maxHeartbeats 4000000
namespace Tim
open PySem PyProof.Rows
section
variable {prog : Program} {w : World} {A : Around} {E : Value → Shared → Prop} {s : Shared} {κ : SortKind} {a₀ : Array Keyed} {rk : Value → Nat}
end
end Tim
set_option Elab.async false
set_option linter.all false
set_option maxRecDepth 100000
set_option maxHeartbeats 4000000
namespace Tim
open PySem PyProof.Rows
section
variable {rk : Value → Nat} {a b out : Array Keyed} {na nb k : Nat}
end
section
variable {prog : Program} {w : World} {A : Around} {E : Value → Shared → Prop} {s : Shared} {κ : SortKind} {a₀ : Array Keyed} {rk : Value → Nat}
end
end Tim
set_option Elab.async false
set_option linter.all false
set_option maxRecDepth 100000
set_option maxHeartbeats 4000000
namespace Tim
open PySem PyProof.Rows
section
variable {prog : Program} {w : World} {A : Around} {E : Value → Shared → Prop} {s : Shared} {κ : SortKind} {a₀ : Array Keyed} {rk : Value → Nat} {pd : Array (Nat × Nat × Nat)}
end
end Tim
set_option Elab.async false
set_option linter.all false
set_option maxRecDepth 100000
set_option maxHeartbeats 4000000
namespace Tim
open PySem PyProof.Rows
section
variable {prog : Program} {w : World} {A : Around} {E : Value → Shared → Prop} {s : Shared} {κ : SortKind} {a₀ : Array Keyed} {rk : Value → Nat} {pd : Array (Nat × Nat × Nat)}
end
end Tim
set_option Elab.async false
set_option linter.all false
set_option maxRecDepth 100000
set_option maxHeartbeats 4000000
namespace Tim
open PySem PyProof.Rows
section
variable {prog : Program} {w : World} {A : Around} {E : Value → Shared → Prop} {s : Shared} {κ : SortKind} {a₀ : Array Keyed} {rk : Value → Nat} {pd : Array (Nat × Nat × Nat)}
end
end Tim
set_option Elab.async false
set_option linter.all false
set_option maxRecDepth 100000
set_option maxHeartbeats 4000000
namespace Tim
open PySem PyProof.Rows
section
variable {prog : Program} {w : World} {A : Around} {E : Value → Shared → Prop} {s : Shared} {κ : SortKind} {rk : Value → Nat}
end
/-! ### ranks out of an order -/
section
end
end Tim
set_option Elab.async false
set_option linter.all false
set_option maxRecDepth 100000
set_option maxHeartbeats 4000000
namespace L2
open PySem PySem.Spec PyProof.Rows PySem.W
section
variable {X : Cx}
end
end L2
set_option Elab.async false
set_option linter.all false
set_option maxRecDepth 100000
set_option maxHeartbeats 4000000
namespace L2
open PySem PySem.Spec PyProof.Rows PySem.W
section
variable {X : Cx}
/-! ### list(range(n)) -/
end
end L2
set_option Elab.async false
set_option linter.all false
set_option maxRecDepth 100000
set_option maxHeartbeats 4000000
namespace L2
open PySem PySem.Spec PyProof.Rows
/-! ### the keys of any dict, one by one: the entries as they stand, whatever the keys are -/
section
variable {prog : Program} {w : World} {A : Around} {E : Value → Shared → Prop} {s : Shared} {it d : Addr} {ep : Nat} {od : Obj} {es : Array DictEntry}
theorem keys_begin {Q : Value → Shared → Prop} (nsm : (d == sysModules) = false) (ho : s.heap.get? d = some od) (hx : od.ExactDict) (he : od.data = .dict es ep)
    (k : Q (.ref s.heap.objs.size) { s with heap := s.heap.push { cls := .type "dict_keyiterator", data := .fields #[.ref d, .int 0 0, .int es.size 0, .int ep 0] } }) : wpAny (model prog w) A (pyIter (.ref d)) Q E s := by
  have ty : s.TypeIs (.ref d) "dict" := ⟨od, ho, hx.1⟩
  refine wpAny_pyIter_slot ty F.slot_dict_iter (wpAny_call_entry F.slot_dict_iter ty F.entry_dict_iter (by
    unfold Builtin.«dict.__iter__» Builtin.Dict.dictSlotNone; refine wpAny_bind (wpAny_bind (wpAny_notOrdered_dict ty ?_))
    show wpAny _ _ (pure (Value.ref d)) _ _ s; refine wpAny_pure ?_
    show wpAny _ _ (Builtin.Dict.showsAll d >>= _) _ _ s; unfold Builtin.Dict.showsAll; rw [nsm]; rw [if_neg Bool.false_ne_true]
    refine wpAny_bind (wpAny_pure (wpAny_bind (wpAny_dictEntries ho he (wpAny_bind (wpAny_dictEpoch ho he (wpAny_bind (wpAny_newObj_type (wpAny_pure ?_))))))))
    exact ⟨_, rfl, "dict_keyiterator", _, ⟨_, Heap.get?_push_size _ rfl, rfl⟩, F.slot_dict_keyiterator_next.lookup, by simpa [rawInt] using k⟩) (F.args_dict_iter_1 _))
/-- the walk's step, as far as it is one for all: the iterator's fields, the dict's entries -/
theorem keys_item {i : Nat} {Q : Option Value → Shared → Prop} (st : s.heap.IsKeyIter it d i es.size ep) (ho : s.heap.get? d = some od) (he : od.data = .dict es ep) (hi : i < es.size)
    (k : ∀ h', h'.IsKeyIter it d (i + 1) es.size ep → Heap.SameBut it s.heap h' → Q (some es[i].key) { s with heap := h' }) : wpAny (model prog w) A (pyNext (.ref it)) Q E s := by
  obtain ⟨oi, hoi, ci, di⟩ := id st
  have ty := st.typeIs
  have nown : Builtin.Dict_items.ownsTuple "dict_keyiterator" = false := by decide
  have nneg : ¬ ((i : Int) < 0) := by omega
  have st' : (s.heap.update it (Obj.mapFields (·.setIfInBounds 1 (rawInt ((i : Int) + 1))))).IsKeyIter it d (i + 1) es.size ep :=
    ⟨_, Heap.get?_update_self _ hoi (Obj.isFreed_of_fields (Obj.data_mapFields di _)), by rw [Obj.cls_mapFields]; exact ci, by rw [Obj.data_mapFields di]; simp [rawInt]⟩
  unfold pyNext
  refine wpAny_bind (wpAny_attempt (wpAny_callSpecial?_slot (name := Str.ofString "__next__") ty F.slot_dict_keyiterator_next (wpAny_call_entry F.slot_dict_keyiterator_next ty F.entry_dict_keyiterator_next (by
    refine wpAny_bind (wpAny_pure (wpAny_bind (wpAny_bind ?_)))
    refine wpAny_bind (wpAny_typeNameOfWhole_keyiter ty (wpAny_pure (wpAny_bind (wpAny_fieldsOf hoi di ?_))))
    rw [nown]; simp only [Bool.false_eq_true, if_false]
    show wpAny _ _ (if (Value.ref d == Value.none) = true then _ else _) _ _ s; rw [show (Value.ref d == Value.none) = false from rfl]; rw [if_neg Bool.false_ne_true]
    refine wpAny_bind (wpAny_pure (wpAny_bind (wpAny_dictEntries ho he ?_)))
    rw [if_neg (by simp)]; refine wpAny_bind (wpAny_pure (wpAny_bind (wpAny_dictEpoch ho he ?_))); rw [if_neg (by simp)]; refine wpAny_pure ?_
    simp only [nneg, if_false, Int.toNat_natCast, Array.getElem?_eq_getElem hi]
    refine wpAny_bind (wpAny_bind (wpAny_typeNameOfWhole_keyiter ty (wpAny_pure (wpAny_bind (wpAny_isOneOf_keyiter ty ?_)))))
    show wpAny _ _ (setField (.ref it) 1 (rawInt ((i : Int) + 1)) >>= _) _ _ s; refine wpAny_bind (wpAny_setField hoi di (by simp) ?_)
    refine wpAny_bind (wpAny_holding (wpAny_bind (wpAny_isOneOf_keyiter (s := { s with heap := s.heap.update it (Obj.mapFields (·.setIfInBounds 1 (rawInt ((i : Int) + 1)))) }) st'.typeIs ?_)))
    show wpAny _ _ (pure es[i].key) _ _ _; exact wpAny_pure (wpAny_pure ⟨_, rfl, wpAny_pure (k _ st' (Heap.SameBut.update ..))⟩)) (F.args_dict_keyiterator_next_1 _))))
theorem keys_end {i : Nat} {Q : Option Value → Shared → Prop} (calm : A.handled = none) (st : s.heap.IsKeyIter it d i es.size ep) (ho : s.heap.get? d = some od) (he : od.data = .dict es ep) (hi : es.size ≤ i)
    (k : ∀ h', Heap.ExtBut it s.heap h' → Q none { s with heap := h' }) : wpAny (model prog w) A (pyNext (.ref it)) Q E s := by
  obtain ⟨oi, hoi, ci, di⟩ := id st
  have ty := st.typeIs
  have nown : Builtin.Dict_items.ownsTuple "dict_keyiterator" = false := by decide
  have nneg : ¬ ((i : Int) < 0) := by omega
  unfold pyNext
  refine wpAny_bind (wpAny_attempt (wpAny_callSpecial?_slot (name := Str.ofString "__next__") ty F.slot_dict_keyiterator_next (wpAny_call_entry F.slot_dict_keyiterator_next ty F.entry_dict_keyiterator_next (by
    refine wpAny_bind (wpAny_pure (wpAny_bind (wpAny_bind ?_)))
    refine wpAny_bind (wpAny_typeNameOfWhole_keyiter ty (wpAny_pure (wpAny_bind (wpAny_fieldsOf hoi di ?_))))
    rw [nown]; simp only [Bool.false_eq_true, if_false]
    show wpAny _ _ (if (Value.ref d == Value.none) = true then _ else _) _ _ s; rw [show (Value.ref d == Value.none) = false from rfl]; rw [if_neg Bool.false_ne_true]
    refine wpAny_bind (wpAny_pure (wpAny_bind (wpAny_dictEntries ho he ?_)))
    rw [if_neg (by simp)]; refine wpAny_bind (wpAny_pure (wpAny_bind (wpAny_dictEpoch ho he ?_))); rw [if_neg (by simp)]; refine wpAny_pure ?_
    simp only [nneg, if_false, Int.toNat_natCast, Array.getElem?_eq_none hi]
    refine wpAny_bind (wpAny_bind (wpAny_typeNameOfWhole_keyiter ty (wpAny_pure ?_)))
    show wpAny _ _ (setField (.ref it) 0 .none >>= _) _ _ s; refine wpAny_bind (wpAny_setField hoi di (by simp) ?_)
    show wpAny _ _ (newExc (.type "StopIteration") [] >>= _) _ _ _; refine wpAny_bind ?_
    simp only [newExc, newTuple]; refine wpAny_bind (wpAny_newObj_type ?_ (by size_fits))
    refine wpAny_bind (m := firstArgMember _ _) (wpAny_of_eq (a := Value.none) (by first | rfl | (simp only [firstArgMember]; rfl)) (wpAny_newObj_type ?_ (by size_fits)))
    simp only [raiseNew]; refine wpAny_bind (wpAny_handled ?_); rw [show A.in1.handled = none from calm]
    refine wpAny_bind (wpAny_pure (wpAny_throw ?_)); refine wpAny_bind (wpAny_isInstance (T := "StopIteration") (b := true) ⟨_, Heap.get?_push_size _ rfl, rfl⟩ isSubtype_stop ?_)
    exact wpAny_pure (k _ (((Heap.SameBut.update ..).extBut.push _).push _))) (F.args_dict_keyiterator_next_1 _))))
end
end L2
set_option Elab.async false
set_option linter.all false
set_option maxRecDepth 100000
set_option maxHeartbeats 4000000
namespace L2
open PySem PySem.Spec PyProof.Rows
section
variable {X : Cx} {pins : List (Addr × Obj)} {σ : St} {H : Hp} {s : Shared} {d : Addr}
theorem kt_upd {kvs : List (List Key × V)} {xs : List (List Key × Addr × Value)} {u v : HO} (r : KT H kvs xs) (e : H d = some u) (h1 : ∀ ys, u ≠ .tup ys) : KT (upd H d v) kvs xs := by
  refine Paired.mapP r fun p q z => ⟨z.1, ?_, z.2.2⟩
  have : q.2.1 ≠ d := fun w => by rw [w, e] at z; exact h1 _ (Option.some.inj z.2.1)
  rw [upd_ne this]
  exact z.2.1
theorem Inv.nofrzT {kvs : List (List Key × V)} (I : Inv X pins σ H s) (e : H d = some (.dT kvs)) : ∀ o v, X.H₀ d ≠ some (.frz o v) := fun o v q => by
  have := I.base.frzs d o v q
  rw [e] at this
  cases this
theorem Inv.freezeT {kvs : List (List Key × V)} {o : Obj} (I : Inv X pins σ H s) (e : H d = some (.dT kvs)) (ho : s.heap.get? d = some o) : Inv X pins σ (upd H d (.frz o (.dT kvs))) s := by
  refine I.retag e (fun _ z => by cases z) (fun _ z => by cases z) (fun _ z => by cases z) (I.nofrzT e) ⟨ho, ?_⟩
  obtain ⟨z, y, xs, r, dd⟩ := (show ObjOk X.prog X.w H s.heap d (.dT kvs) from I.hok d _ e)
  exact ⟨z, y, xs, kt_upd r e (fun _ z => by cases z), dd⟩
theorem Inv.thawT {kvs : List (List Key × V)} {o : Obj} (I : Inv X pins σ H s) (e : H d = some (.frz o (.dT kvs))) (hz : ∀ o v, X.H₀ d ≠ some (.frz o v)) : Inv X pins σ (upd H d (.dT kvs)) s := by
  refine I.retag e (fun _ z => by cases z) (fun _ z => by cases z) (fun _ z => by cases z) hz ?_
  obtain ⟨_, z, y, xs, r, dd⟩ := (show ObjOk X.prog X.w H s.heap d (.frz o (.dT kvs)) from I.hok d _ e)
  exact ⟨z, y, xs, kt_upd r e (fun _ z => by cases z), dd⟩
end
/-! ### over the keys of a dict whose keys are tuples -/
def ItdT (d : Addr) (o : Obj) (kvs : List (List Key × V)) : It :=
  ⟨fun i H => i < kvs.length ∧ H d = some (.frz o (.dT kvs)), fun i H x H' => H' = H ∧ ∃ k v b, kvs[i]? = some (k, v) ∧ x = .ref b ∧ H b = some (.tup (k.map kV)), fun i H => kvs.length ≤ i ∧ H d = some (.frz o (.dT kvs))⟩
theorem kt_get {H : Hp} {kvs : List (List Key × V)} {xs : List (List Key × Addr × Value)} (r : KT H kvs xs) : ∀ (i : Nat) (k : List Key) (v : V), kvs[i]? = some (k, v) → ∃ q, xs[i]? = some q ∧ H q.2.1 = some (.tup (k.map kV)) := by
  induction r with
  | nil => intro i k v h; cases h
  | @cons p q ps qs h r ih =>
    intro i k v e
    cases i with
    | zero =>
      have e' : p = (k, v) := Option.some.inj e
      subst e'
      exact ⟨q, rfl, h.2.1⟩
    | succ i => exact ih i k v (by simpa using e)
theorem turn_dictT {P : Program} {w : World} {K : PySem.W.Frag} {tg : Expr} (d it : Addr) (o : Obj) (kvs : List (List Key × V)) (es : Array DictEntry) (ep : Nat) (hd : o.data = .dict es ep) : Turn P w K tg (ItdT d o kvs) [it] it (fun i h => h.IsKeyIter it d i es.size ep) where
  mem := by simp
  obj := fun i h st b hb => by
    have e : b = it := by simpa using hb
    subst e
    obtain ⟨o, e, c, d⟩ := st
    exact ⟨o, e, fun v z => by rw [d] at z; cases z⟩
  keep := fun i h h' st k => by
    obtain ⟨o, e, c, d⟩ := st
    exact ⟨o, k it (by simp) o e, c, d⟩
  item := by
    intro X hP hw hK hc i pins s σ H E I hf st hg
    subst hP hw hK
    obtain ⟨hi, hH⟩ := hg
    obtain ⟨ho, z, y, xs, r, o', es', ep', q1, q2, q3, q4, q5⟩ := (show ObjOk X.prog X.w H s.heap d (.frz o (.dT kvs)) from I.hok d _ hH)
    rw [ho] at q1
    cases q1
    rw [hd] at q3
    cases q3
    have hl : kvs.length = xs.length := Paired.length r
    have hsz : es.size = xs.length := by rw [← Array.length_toList, q4, List.length_map]
    obtain ⟨k, v, ekv⟩ : ∃ k v, kvs[i]? = some (k, v) := ⟨kvs[i].1, kvs[i].2, by simp [hi]⟩
    obtain ⟨q, eq, hq⟩ := kt_get r i k v ekv
    have ie : i < es.size := by omega
    have ek : es[i].key = .ref q.2.1 := by
      have e1 : es.toList[i]? = some es[i] := by simp [ie]
      rw [q4, List.getElem?_map, eq] at e1
      have := Option.some.inj e1
      rw [← this]
      rfl
    obtain ⟨f0, f1, f2, f3, f4, f5⟩ := hf it (by simp)
    refine keys_item st ho hd ie fun h' st' sb => ?_
    have I1 : Inv X pins σ H { s with heap := h' } := I.turned (t' := s.toks) (fun b o hb e => (sb.2 b hb).trans e) f0 f1 f3 f4 f5
    obtain ⟨ob, e, c, dd⟩ := id st'
    rw [ek]
    exact ⟨.ref q.2.1, rfl, go_of (s := { s with heap := h' }) e c dd (by decide) ⟨.ref q.2.1, H, I1, rfl, ⟨rfl, k, v, q.2.1, ekv, rfl, hq⟩, st', fun b hb => (hf b hb).1⟩⟩
  done := by
    intro X hP hw hK hc i pins s σ H E I hf st hg
    subst hP hw hK
    obtain ⟨hi, hH⟩ := hg
    obtain ⟨ho, z, y, xs, r, o', es', ep', q1, q2, q3, q4, q5⟩ := (show ObjOk X.prog X.w H s.heap d (.frz o (.dT kvs)) from I.hok d _ hH)
    rw [ho] at q1
    cases q1
    rw [hd] at q3
    cases q3
    have hl : kvs.length = xs.length := Paired.length r
    have hsz : es.size = xs.length := by rw [← Array.length_toList, q4, List.length_map]
    obtain ⟨f0, f1, f2, f3, f4, f5⟩ := hf it (by simp)
    exact keys_end (I.ok.hd hc) st ho hd (by omega) fun h' eb => ⟨rfl, I.turned (t' := s.toks) (fun b o hb e => eb b o hb e) f0 f1 f3 f4 f5⟩
  self := fun _ _ _ _ _ st h => wpAny_pyIter_keyiter st h
section
variable {X : Cx} {tg : Expr}
def iDictT (tl : TE) : TI := fun σ H R => tl σ H fun x H1 => ∃ d kvs, x = .ref d ∧ H1 d = some (.dT kvs) ∧ ∀ o, R (ItdT d o kvs) (upd H1 d (.frz o (.dT kvs)))
theorem pi_dictT {l : Expr} {tl : TE} (hl : PE X l tl) : PI X tg l (iDictT tl) := by
  intro pins s σ H R I h
  refine thn (hl pins s σ H _ I h) fun v s1 ⟨x, H1, I1, r1, q1⟩ => ?_
  obtain ⟨d, kvs, e, hH, q⟩ := q1
  subst e
  cases r1
  obtain ⟨z, hd, xs, r, o, es, ep, ho, q2, q3, q4, q5⟩ := (show ObjOk X.prog X.w H1 s1.heap d (.dT kvs) from I1.hok d _ hH)
  refine keys_begin hd ho q2 q3 ?_
  have If := I1.freezeT hH ho
  have nit : (upd H1 d (HO.frz o (.dT kvs))) s1.heap.objs.size = none := by
    rw [upd_ne (Ne.symm (Nat.ne_of_lt (Heap.lt_size ho)))]
    exact I1.hok.fresh (Nat.le_refl _)
  refine ⟨s1.heap.objs.size, [s1.heap.objs.size], _, _, upd H1 d (.frz o (.dT kvs)), rfl, If.kept (t' := s1.toks) fun b o e => Heap.get?_push_of_some _ e, turn_dictT d _ o kvs es ep q3, ⟨_, Heap.get?_push_size _ rfl, rfl, rfl⟩, fun b hb => ?_, q o⟩
  have e : b = s1.heap.objs.size := by simpa using hb
  subst e
  exact If.fpOk (Nat.le_refl _) nit
end
/-! ### let go again -/
def ThawT (H H' H'' : Hp) : Prop := ∃ d kvs0 o kvs, H d = some (.dT kvs0) ∧ H' d = some (.frz o (.dT kvs)) ∧ H'' = upd H' d (.dT kvs)
def sThawT (t : TS) : TS := fun D σ H => t { D with nx := fun σ' H' => ∃ H'', ThawT H H' H'' ∧ D.nx σ' H'' } σ H
theorem ps_thawT {X : Cx} {st : Stmt} {t : TS} (h : PS X st t) : PS X st (sThawT t) := by
  intro pins s σ H D I q
  refine wpAny_mono (h pins s σ H _ I q) (fun f s1 q1 => ?_) fun _ _ z => z
  cases f with
  | next =>
    obtain ⟨σ1, H1, I1, H2, ⟨d, kvs0, o, kvs, e1, e2, rfl⟩, q2⟩ := q1
    exact ⟨σ1, _, I1.thawT e2 (I.nofrzT e1), q2⟩
  | brk => exact q1
  | cont => exact q1
  | ret u => exact q1
section
variable {d D : Addr} {o : Obj} {kvs : List (List Key × V)} {tc : TT} {te : TE} {Q : VK} {rest : St} {H1 : Hp}
/-- items that are new data of their own, over the keys, some left out -/
theorem comp_datT (f : Nat → Option PyData) (hf : ∀ i d, f i = some d → imm d = true) (hD : H1 D = none) (hq : H1 d = some (.frz o (.dT kvs))) (hx : kvs.length ≤ 100000)
    (hs : ∀ i k v b H (G : Hp → Prop) (F : VK), kvs[i]? = some (k, v) → H b = some (.tup (k.map kV)) → Same H1 H → (∀ H', Same H H' → f i = none → G H') → (∀ y d H', Same H H' → f i = some d → Dat H' y d → F y H') → tc (some (.ref b) :: rest) H fun b' H3 => if b' = true then te (some (.ref b) :: rest) H3 F else G H3)
    (hd : ∀ H vs, Same H1 H → H D = some (.lst vs) → Dats H vs ((List.range kvs.length).filterMap f) → Q (.ref D) H) : CompW (ItdT d o kvs) (gName 0) tc te Q D (none :: rest) H1 := by
  have imsf : ∀ l : List Nat, imms (l.filterMap f) = true := fun l => by
    induction l with
    | nil => rfl
    | cons i l ih =>
      rw [List.filterMap_cons]
      cases e : f i with
      | none => exact ih
      | some dd => simp only [imms, hf i dd e, ih, Bool.and_self]
  refine ⟨fun i m σ H => m = kvs.length - i ∧ i ≤ kvs.length ∧ (∃ v, σ = v :: rest) ∧ Same H1 H ∧ ∃ vs, H D = some (.lst vs) ∧ Dats H vs ((List.range i).filterMap f), ⟨kvs.length, by simp, Nat.zero_le _, ⟨none, rfl⟩, same_new hD, [], upd_same, by simp [Dats]⟩, ?_⟩
  rintro i m σ H ⟨rfl, hi, ⟨v, rfl⟩, sm, vs, e, dd⟩
  by_cases hlt : i < kvs.length
  · refine .inr ⟨⟨hlt, sm _ _ hq⟩, fun σ' H' => i + 1 ≤ kvs.length ∧ (∃ v, σ' = v :: rest) ∧ Same H1 H' ∧ ∃ vs, H' D = some (.lst vs) ∧ Dats H' vs ((List.range (i + 1)).filterMap f), fun σ' H' p' => ⟨kvs.length - (i + 1), by omega, rfl, p'⟩, fun x H' y => ?_⟩
    obtain ⟨rfl, k, w, b, ekv, rfl, hb⟩ := y
    have im := imsf (List.range i)
    refine hs i k w b _ _ _ ekv hb sm (fun H3 s3 ef => ⟨hlt, ⟨_, rfl⟩, sm.trans s3, vs, s3 _ _ e, ?_⟩) (fun y dy H4 s4 ef hy => ?_)
    · rw [fm_succ, ef]
      simpa using Dats.keep s3.tups _ im dd
    · have hl : vs.length ≤ i := by rw [dd.length]; exact fm_len f i
      have kp : Kp D H4 (upd H4 D (.lst (vs ++ [y]))) := Kp.set
      have tp := kp.tups (s4 _ _ e)
      refine ⟨vs, s4 _ _ e, ?_, hlt, ⟨_, rfl⟩, (sm.trans s4).newly hD, vs ++ [y], upd_same, ?_⟩
      · rw [sizeLine_eq]; omega
      · rw [fm_succ, ef]
        exact dats_snoc (Dats.keep (fun a xs h => tp _ _ (s4.tups _ _ h)) _ im dd) (Dat.keep tp _ (hf i dy ef) hy)
  · have e' : i = kvs.length := by omega
    subst e'
    exact .inl ⟨⟨Nat.le_refl _, sm _ _ hq⟩, hd H vs sm e dd⟩
end
end L2
set_option Elab.async false
set_option linter.all false
set_option maxRecDepth 100000
set_option maxHeartbeats 4000000
namespace L2
open PySem PySem.Spec PyProof.Rows
/-! ### max(xs, default=d) -/
section
variable {prog : Program} {w : World} {A : Around} {R : Result → Shared → Prop} {it : Addr} {rd wt : List Addr} {n : Nat} {P : Nat → Value → Prop} {St : Nat → Heap → Prop}
/-- what the loop keeps: nothing yet, or the best so far, twice -/
def BestD (P : Nat → Value → Prop) (val : Nat → Int) (i : Nat) (arr : Array Value) : Prop := (i = 0 ∧ arr = #[]) ∨ ∃ b v, b < i ∧ P b v ∧ (∀ j, j < i → val j ≤ val b) ∧ arr = #[v, v]
theorem max_again : (toString "max" ++ toString ".loop" : String) = "max.loop" := by decide
/-- the default goes along with every turn, and is the answer where there was none -/
theorem max_loopD (W : Walks prog w A.in1 it rd wt n P St) (val : Nat → Int) (hc : CmpOf prog w A.in1 .Gt P fun i j => decide (val i > val j)) (S : Addr) (hn : S ∉ rd) (d : Value) :
    ∀ (k i : Nat) (s : Shared) (arr : Array Value) (c : Nat), n - i = k → i ≤ n → St i s.heap → BestD P val i arr →
    s.heap.get? S = some { cls := .type "list", dict := none, data := .seq arr c, slots := #[] } →
    (∀ v h' tk, ((n = 0 ∧ v = d) ∨ ∃ b, b < n ∧ P b v ∧ ∀ j, j < n → val j ≤ val b) → (∀ b o, b ∉ wt → b ≠ S → s.heap.get? b = some o → h'.get? b = some o) → R (.ok (.ret v)) { s with heap := h', toks := tk }) →
    codeAny (model prog w) A (.builtin "max.loop" ⟨[.ref it, .none, .ref S], [(Str.ofString "default", d)]⟩) R s := by
  have nw : S ∉ wt := fun z => hn (W.sub _ z)
  intro k
  induction k with
  | zero =>
    intro i s arr c ek li st best eS done
    obtain rfl : i = n := by omega
    refine codeAny_builtin F.entry_max_loop ?_; rw [Around.under_plainId F.plain_max_loop _]
    refine (show wpAny _ A.in1 (seqItems? (.ref S) >>= _) _ _ s from wpAny_bind (wpAny_seqItems eS rfl ?_))
    refine (show wpAny _ A.in1 (tryCatch (pyNext (.ref it)) _ >>= _) _ _ s from wpAny_bind (wpAny_tryCatch (W.done s _ _ st fun h' tk kp => ?_)))
    have eS' := kp S _ nw eS
    rcases best with ⟨z, rfl⟩ | ⟨b, v, lb, pb, top, rfl⟩
    · refine (show wpAny _ A.in1 (rule _ >>= _) _ _ _ from wpAny_bind (wpAny_rule (wpAny_pure (done d h' tk (.inl ⟨z, rfl⟩) fun b o nb _ e => kp b o nb e))))
    · refine (show wpAny _ A.in1 (updateSeq S (fun _ => #[]) >>= _) _ _ _ from wpAny_bind (wpAny_updateSeq eS' rfl (wpAny_bind (wpAny_letGo (wpAny_pure (done v _ tk (.inr ⟨b, lb, pb, top⟩) fun b o nb nS e => ?_))))))
      exact (Heap.get?_update_other _ _ (Ne.symm nS)).trans (kp b o nb e)
  | succ k ih =>
    intro i s arr c ek li st best eS done
    have lt : i < n := by omega
    refine codeAny_builtin F.entry_max_loop ?_; rw [Around.under_plainId F.plain_max_loop _]
    refine (show wpAny _ A.in1 (seqItems? (.ref S) >>= _) _ _ s from wpAny_bind (wpAny_seqItems eS rfl ?_))
    refine (show wpAny _ A.in1 (tryCatch (pyNext (.ref it)) _ >>= _) _ _ s from wpAny_bind (wpAny_tryCatch (W.item i s _ _ lt st fun v h' tk pv st' kp => ?_)))
    have eS' := kp S _ nw eS
    rcases best with ⟨z, rfl⟩ | ⟨b, u, lb, pb, top, rfl⟩
    · refine (show wpAny _ A.in1 (updateSeq S (fun _ => #[v, v]) >>= _) _ _ _ from wpAny_bind (wpAny_updateSeq eS' rfl ?_))
      rw [max_again]
      refine wpAny_pure ⟨plainId_quiet F.plain_max_loop _, ih (i + 1) _ #[v, v] _ (by omega) lt (W.frame _ _ _ st' fun b hb o e => (Heap.get?_update_other _ _ (fun z : S = b => hn (z ▸ hb))).trans e) (.inr ⟨i, v, by omega, pv, fun j hj => by rw [show j = i by omega]; exact Int.le_refl _, rfl⟩) (Heap.get?_update_self _ eS' rfl) fun v' h2 tk2 hv kp2 => ?_⟩
      exact done v' h2 tk2 hv fun b o nb nS e => kp2 b o nb nS ((Heap.get?_update_other _ _ (Ne.symm nS)).trans (kp b o nb e))
    · refine (show wpAny _ A.in1 (tryCatch (holding [v, v] (richCompare .Gt v u >>= _)) _ >>= _) _ _ _ from wpAny_bind (wpAny_tryCatch (wpAny_holding (wpAny_bind (hc i b v u _ _ _ pv pb (wpAny_bind (wpAny_holding (wpAny_truthy_bool (wpAny_bind (wpAny_letGo (wpAny_pure ?_)))))))))))
      by_cases more : val i > val b
      · rw [if_pos (show ((fun i j => decide (val i > val j)) i b) = true from decide_eq_true more)]
        refine wpAny_bind (wpAny_updateSeq eS' rfl (wpAny_bind (wpAny_letGo (by rw [max_again]; exact wpAny_pure ⟨plainId_quiet F.plain_max_loop _, ih (i + 1) _ #[v, v] _ (by omega) lt (W.frame _ _ _ st' fun b hb o e => (Heap.get?_update_other _ _ (fun z : S = b => hn (z ▸ hb))).trans e) (.inr ⟨i, v, by omega, pv, fun j hj => by
            by_cases z : j = i
            · rw [z]; exact Int.le_refl _
            · have := top j (by omega); omega, rfl⟩) (Heap.get?_update_self _ eS' rfl) fun v' h2 tk2 hv kp2 => done v' h2 tk2 hv fun b o nb nS e => kp2 b o nb nS ((Heap.get?_update_other _ _ (Ne.symm nS)).trans (kp b o nb e))⟩))))
      · rw [if_neg (show ¬ ((fun i j => decide (val i > val j)) i b) = true from fun z => more (of_decide_eq_true z))]
        refine wpAny_bind (wpAny_letGo (by rw [max_again]; exact wpAny_pure ⟨plainId_quiet F.plain_max_loop _, ih (i + 1) _ #[u, u] c (by omega) lt st' (.inr ⟨b, u, by omega, pb, fun j hj => by
            by_cases z : j = i
            · rw [z]; omega
            · exact top j (by omega), rfl⟩) eS' fun v' h2 tk2 hv kp2 => done v' h2 tk2 hv fun b o nb nS e => kp2 b o nb nS (kp b o nb e)⟩))
theorem max_callD {E : Value → Shared → Prop} {s : Shared} {x d : Value} {Q : Value → Shared → Prop}
    (h : wpAny (model prog w) A.in1 (pyIter x) (fun y s2 => ∃ (it : Addr) (rd wt : List Addr) (n : Nat) (P : Nat → Value → Prop) (St : Nat → Heap → Prop) (val : Nat → Int), y = .ref it ∧ Walks prog w A.in1 it rd wt n P St ∧ St 0 s2.heap ∧ (∀ b ∈ rd, b < s2.heap.objs.size) ∧ CmpOf prog w A.in1 .Gt P (fun i j => decide (val i > val j)) ∧
      ∀ v h' tk, ((n = 0 ∧ v = d) ∨ ∃ b, b < n ∧ P b v ∧ ∀ j, j < n → val j ≤ val b) → (∀ b o, b ∉ wt → s2.heap.get? b = some o → h'.get? b = some o) → Q v { s2 with heap := h', toks := tk }) E s) :
    wpAny (model prog w) A (call (.builtin "max") [x] [(Str.ofString "default", d)]) Q E s := by
  have ok : argsOk "max" ⟨[x], [(Str.ofString "default", d)]⟩ := by unfold argsOk; kernel_rfl
  refine wpAny_call (codeAny_call_builtin F.plain_max F.entry_max ?_); simp only [checkBuiltinCall, F.kind_max]
  have run : wpAny (model prog w) A.in1 (Builtin.«max» ⟨[x], [(Str.ofString "default", d)]⟩) (fun fin s' => match fin with | .done f => (match (Except.ok f : Result) with | .ok (.ret v) => Q v s' | .ok _ => False | .error e => E e s') | .again c' => c'.quiet = true ∧ codeAny (model prog w) A c' (fun r s' => match r with | .ok (.ret v) => Q v s' | .ok _ => False | .error e => E e s') s') E s := by
    refine (show wpAny _ A.in1 (Builtin.Builtins.bindParams "max" ["key", "default"] 0 ⟨[], [(Str.ofString "default", d)]⟩ >>= _) _ _ s from wpAny_bind (wpAny_of_eq (show _ = pure [none, some d] from rfl) (wpAny_bind (wpAny_pure (wpAny_bind (wpAny_mono h (fun y s2 h2 => ?_) fun _ _ z => z))))))
    obtain ⟨it, rd, wt, n, P, St, val, rfl, W, st, lt, hc, k⟩ := h2
    refine wpAny_bind (wpAny_newObj_type ?_); rw [max_again]
    refine wpAny_pure ⟨plainId_quiet F.plain_max_loop _, max_loopD W val hc s2.heap.objs.size (fun z => Nat.lt_irrefl _ (lt _ z)) d n 0 _ #[] _ rfl (Nat.zero_le _) (W.frame _ _ _ st fun b _ o e => Heap.get?_push_of_some _ e) (.inl ⟨rfl, rfl⟩) (Heap.get?_push_size _ rfl) fun v h' tk hv kp => ?_⟩
    exact k v h' tk hv fun b o nb e => kp b o nb (Nat.ne_of_lt (Heap.lt_size e)) (Heap.get?_push_of_some _ e)
  cases sg : Manifest.signature? "max" with
  | none => exact wpAny_pure run
  | some sig =>
    have eq : Bind.checkArgs "max" sig ⟨[x], [(Str.ofString "default", d)]⟩ = pure () := by simpa only [argsOk, sg] using ok
    simp only [eq]; exact wpAny_pure run
end
end L2
set_option Elab.async false
set_option linter.all false
set_option maxRecDepth 100000
set_option maxHeartbeats 4000000
namespace L2
open PySem PySem.Spec PyProof.Rows
/-- max(xs, default=d), xs a list of numbers -/
def tMaxD (K : PySem.W.Frag) (ta : TA) (td : TE) : TE := fun σ H Q => ta σ H fun vs H1 => td σ H1 fun dv H2 => ∃ (p : Addr) (ns : List Int) (d : Int), vs = [.ref p] ∧ dv = .int d ∧ SqL K H2 p (ns.map V.int) ∧ ∀ m, (ns = [] ∧ m = d) ∨ (m ∈ ns ∧ ∀ a ∈ ns, a ≤ m) → Q (.int m) H2
section
variable {X : Cx} {K : PySem.W.Frag} {a dE : Expr} {ta : TA} {td : TE} {p pos kp : Pos}
theorem pe_maxD (hK : X.K = K) (hc : X.calm = true) (hg : Gl X "max") (hm : X.mg "max" = none) (hv : bootBuiltins "max" = some (.builtin "max")) (ha : PA X [a] ta) (hd : PE X dE td)
    (he : backTo pos (starEach [a] X.env) = (false, eval a X.env) :: backTo pos (starEach [] X.env) := by rfl)
    (hplain : (backTo pos (starEach [a] X.env)).any (·.1) = false := by rfl) :
    PE X (.Call (.Name "max" p) [a] [⟨some "default", dE, kp⟩] pos) (tMaxD K ta td) := by
  subst hK
  intro pins s σ H Q I h
  refine wpAny_Call_Name_kw (ld_blt I hg hm hv ?_ (by decide) (by decide))
  refine PyProof.Rows.callWith_kw (thn (ha pos pins s σ H _ I h) fun us s1 ⟨vs, H1, I1, r1, q1⟩ => ?_) he hplain
  refine PyProof.Rows.kws_cons (thn (hd pins s1 σ H1 _ I1 q1) fun dv s2 ⟨x, H2, I2, r2, q2⟩ => PyProof.Rows.kws_nil ?_)
  obtain ⟨p, ns, d, rfl, rfl, hq, q⟩ := q2
  obtain ⟨u, rfl, rx⟩ := vals1 r1
  cases rx
  obtain ⟨td', rfl⟩ := r2
  obtain ⟨its, rv, pl, hz⟩ := I2.list hq
  have hlen : its.length = ns.length := by rw [← rv.length, List.length_map]
  have item : ∀ (i : Nat) (v : Value), its[i]? = some v → ∃ t, v = Value.int ((ns[i]?).getD 0) t ∧ ns[i]? = some ((ns[i]?).getD 0) := by
    intro i v hP
    have hi : i < its.length := (List.getElem?_eq_some_iff.mp hP).1
    obtain ⟨u, hu, ru⟩ := rv.get (i := i) (x := V.int (ns[i]'(by omega))) (by simp [show i < ns.length by omega])
    rw [hP] at hu
    cases hu
    obtain ⟨t, ht⟩ := ru
    exact ⟨t, by simp [show i < ns.length by omega, ht], by simp [show i < ns.length by omega]⟩
  show wpAny (model X.prog X.w) X.A (call (.builtin "max") [.ref p] [(Str.ofString "default", Value.int d td')]) _ _ s2
  refine max_callD (wpAny_pyIter_list pl.isList ⟨s2.heap.objs.size, [s2.heap.objs.size, p], [s2.heap.objs.size], its.length, _, _, fun i => (ns[i]?).getD 0, rfl,
    walks_list (show X.A.in1.handled = none from I2.ok.hd hc) s2.heap.objs.size p ?_ its, ⟨⟨_, Heap.get?_push_size _ rfl, rfl, rfl⟩, ?_⟩, ?_, ?_, ?_⟩)
  · intro z
    obtain ⟨o, ho, _⟩ := pl.isList
    have := Heap.lt_size ho
    rw [← z] at this
    exact Nat.lt_irrefl _ this
  · obtain ⟨o, ho, hcl⟩ := pl.isList
    exact ⟨o, Heap.get?_push_of_some _ ho, hcl⟩
  · intro b hb
    have hsz : (s2.heap.push { cls := .type "list_iterator", data := .fields #[.ref p, .int 0 0] }).objs.size = s2.heap.objs.size + 1 := by simp [Heap.push]
    have hb' : b = s2.heap.objs.size ∨ b = p := by simpa using hb
    show b < (s2.heap.push _).objs.size
    rw [hsz]
    rcases hb' with rfl | rfl
    · exact Nat.lt_succ_self _
    · obtain ⟨o, ho, _⟩ := pl.isList
      exact Nat.lt_succ_of_lt (Heap.lt_size ho)
  · intro i j vi vj s' Q' E' hi hj hQ
    obtain ⟨t, rfl, _⟩ := item i vi hi
    obtain ⟨t', rfl, _⟩ := item j vj hj
    exact gt_int hQ
  · intro v h' tk hv k
    have f := I2.fpOk (H' := H2) (b := s2.heap.objs.size) (Nat.le_refl _) (I2.hok.fresh (Nat.le_refl _))
    have I3 : Inv X pins σ H2 { s2 with heap := h', toks := tk } := I2.turned (h' := h') (t' := tk) (it := s2.heap.objs.size) (fun b o hb e => k b o (by simpa using hb) (Heap.get?_push_of_some _ e)) f.1 f.2.1 f.2.2.2.1 f.2.2.2.2.1 f.2.2.2.2.2
    rcases hv with ⟨n0, rfl⟩ | ⟨b, lb, hP, top⟩
    · exact ⟨.int d, H2, I3, ⟨_, rfl⟩, q d (.inl ⟨List.eq_nil_of_length_eq_zero (by omega), rfl⟩)⟩
    · obtain ⟨t, rfl, hm⟩ := item b v hP
      refine ⟨.int _, H2, I3, ⟨_, rfl⟩, q _ (.inr ⟨List.mem_of_getElem? hm, fun a ha => ?_⟩)⟩
      obtain ⟨j, hj⟩ := List.getElem?_of_mem ha
      have hjl := (List.getElem?_eq_some_iff.mp hj).1
      have := top j (by omega)
      simpa [hj] using this
end
end L2
set_option Elab.async false
set_option linter.all false
set_option maxRecDepth 100000
set_option maxHeartbeats 4000000



namespace Prf
open PySem L2
def top (i : Nat) : Stmt := PySem.Challenge.pw_fewnotes_k24_enough_or_not.main.body.getD i (.Pass ⟨0, 0, 0, 0⟩)
abbrev s_is_whole : Stmt := top 4
abbrev s_names : Stmt := top 6
abbrev s_touches_meet : Stmt := top 7
abbrev s_enough : Stmt := top 9
abbrev s_is_note : Stmt := top 10
abbrev s_is_strict : Stmt := top 11
abbrev s_check_strict : Stmt := top 12
abbrev s_places_of : Stmt := top 13
abbrev s_steps_by : Stmt := top 14
abbrev s_knowns_by : Stmt := top 15
abbrev s_is_known : Stmt := top 16
abbrev s_learn : Stmt := top 17
abbrev s_Lspring : Stmt := top 19
abbrev s_Ldraw : Stmt := top 20
abbrev s_Lweb : Stmt := top 21
abbrev s_Lcalls : Stmt := top 22
abbrev s_Lmeets : Stmt := top 23
abbrev s_Lstep : Stmt := top 24
abbrev s_Ltable : Stmt := top 25
abbrev s_Lnotes : Stmt := top 26
abbrev s_Lenough : Stmt := top 27
abbrev s_Llater : Stmt := top 28
abbrev s_Lany : Stmt := top 29
abbrev s_Lmixed : Stmt := top 30
abbrev s_Lsome : Stmt := top 31
abbrev s_law : Stmt := top 32
structure Blt (mg : Str → Option Value) : Prop where
  b_ValueError : mg "ValueError" = none
  b_abs : mg "abs" = none
  b_all : mg "all" = none
  b_any : mg "any" = none
  b_bool : mg "bool" = none
  b_enumerate : mg "enumerate" = none
  b_int : mg "int" = none
  b_isinstance : mg "isinstance" = none
  b_len : mg "len" = none
  b_list : mg "list" = none
  b_max : mg "max" = none
  b_min : mg "min" = none
  b_range : mg "range" = none
  b_tuple : mg "tuple" = none
theorem sc_is_whole : FnScope ["value"] ["value"] (defScope s_is_whole) := ⟨rfl, rfl, rfl, by decide +kernel, rfl, by decide +kernel, by decide +kernel⟩
theorem sc_names : FnScope ["web", "counts", "told", "touch", "k"] ["web"] (defScope s_names) := ⟨rfl, rfl, rfl, by decide +kernel, rfl, by decide +kernel, by decide +kernel⟩
theorem sc_touches_meet : FnScope ["one", "other"] ["one", "other"] (defScope s_touches_meet) := ⟨rfl, rfl, rfl, by decide +kernel, rfl, by decide +kernel, by decide +kernel⟩
theorem sc_enough : FnScope ["web", "some", "places", "named", "knowns", "later", "known", "earlier"] ["web", "some"] (defScope s_enough) := ⟨rfl, rfl, rfl, by decide +kernel, rfl, by decide +kernel, by decide +kernel⟩
theorem sc_is_note : FnScope ["value"] ["value"] (defScope s_is_note) := ⟨rfl, rfl, rfl, by decide +kernel, rfl, by decide +kernel, by decide +kernel⟩
theorem sc_is_strict : FnScope ["places", "note"] ["places", "note"] (defScope s_is_strict) := ⟨rfl, rfl, rfl, by decide +kernel, rfl, by decide +kernel, by decide +kernel⟩
theorem sc_check_strict : FnScope ["places", "some"] ["places", "some"] (defScope s_check_strict) := ⟨rfl, rfl, rfl, by decide +kernel, rfl, by decide +kernel, by decide +kernel⟩
theorem sc_places_of : FnScope ["web", "places", "place", "name"] ["web"] (defScope s_places_of) := ⟨rfl, rfl, rfl, by decide +kernel, rfl, by decide +kernel, by decide +kernel⟩
theorem sc_steps_by : FnScope ["places", "some", "steps"] ["places", "some"] (defScope s_steps_by) := ⟨rfl, rfl, rfl, by decide +kernel, rfl, by decide +kernel, by decide +kernel⟩
theorem sc_knowns_by : FnScope ["named", "steps", "sources", "step", "knowns", "place", "name", "known", "source"] ["named", "steps"] (defScope s_knowns_by) := ⟨rfl, rfl, rfl, by decide +kernel, rfl, by decide +kernel, by decide +kernel⟩
theorem sc_is_known : FnScope ["name", "known"] ["name", "known"] (defScope s_is_known) := ⟨rfl, rfl, rfl, by decide +kernel, rfl, by decide +kernel, by decide +kernel⟩
theorem sc_learn : FnScope ["known", "more", "hand"] ["known", "more"] (defScope s_learn) := ⟨rfl, rfl, rfl, by decide +kernel, rfl, by decide +kernel, by decide +kernel⟩
theorem sc_Lspring : FnScope ["script", "figures", "stir", "cell"] ["script"] (defScope s_Lspring) := ⟨rfl, rfl, rfl, by decide +kernel, rfl, by decide +kernel, by decide +kernel⟩
theorem sc_Ldraw : FnScope ["spring", "many", "found", "stir"] ["spring", "many"] (defScope s_Ldraw) := ⟨rfl, rfl, rfl, by decide +kernel, rfl, by decide +kernel, by decide +kernel⟩
theorem sc_Lweb : FnScope ["spring", "most", "shape", "size", "hands", "first", "room", "base", "kinds", "web", "at", "hand", "kind"] ["spring", "most"] (defScope s_Lweb) := ⟨rfl, rfl, rfl, by decide +kernel, rfl, by decide +kernel, by decide +kernel⟩
theorem sc_Lcalls : FnScope ["web", "many", "found", "hand", "kind", "cell"] ["web"] (defScope s_Lcalls) := ⟨rfl, rfl, rfl, by decide +kernel, rfl, by decide +kernel, by decide +kernel⟩
theorem sc_Lmeets : FnScope ["one", "other"] ["one", "other"] (defScope s_Lmeets) := ⟨rfl, rfl, rfl, by decide +kernel, rfl, by decide +kernel, by decide +kernel⟩
theorem sc_Lstep : FnScope ["one", "other"] ["one", "other"] (defScope s_Lstep) := ⟨rfl, rfl, rfl, by decide +kernel, rfl, by decide +kernel, by decide +kernel⟩
theorem sc_Ltable : FnScope ["web", "calls", "table", "j", "row", "i"] ["web", "calls"] (defScope s_Ltable) := ⟨rfl, rfl, rfl, by decide +kernel, rfl, by decide +kernel, by decide +kernel⟩
theorem sc_Lnotes : FnScope ["web", "calls", "table", "pairs", "j", "firsts", "i", "hand", "k", "between"] ["web", "calls", "table"] (defScope s_Lnotes) := ⟨rfl, rfl, rfl, by decide +kernel, rfl, by decide +kernel, by decide +kernel⟩
theorem sc_Lenough : FnScope ["web", "calls", "some", "table", "j", "hand", "k", "firsts", "row", "i"] ["web", "calls", "some"] (defScope s_Lenough) := ⟨rfl, rfl, rfl, by decide +kernel, rfl, by decide +kernel, by decide +kernel⟩
theorem sc_Llater : FnScope ["spring", "web", "pair", "some"] ["spring", "web", "pair"] (defScope s_Llater) := ⟨rfl, rfl, rfl, by decide +kernel, rfl, by decide +kernel, by decide +kernel⟩
theorem sc_Lany : FnScope ["spring", "web", "many", "some", "again", "one", "other"] ["spring", "web", "many"] (defScope s_Lany) := ⟨rfl, rfl, rfl, by decide +kernel, rfl, by decide +kernel, by decide +kernel⟩
theorem sc_Lmixed : FnScope ["spring", "pairs", "found", "pair", "at", "twice"] ["spring", "pairs"] (defScope s_Lmixed) := ⟨rfl, rfl, rfl, by decide +kernel, rfl, by decide +kernel, by decide +kernel⟩
theorem sc_Lsome : FnScope ["spring", "web", "pairs", "kind", "more", "at", "some"] ["spring", "web", "pairs", "kind"] (defScope s_Lsome) := ⟨rfl, rfl, rfl, by decide +kernel, rfl, by decide +kernel, by decide +kernel⟩
theorem sc_law : FnScope ["script", "spring", "kinds", "web", "calls", "pairs", "kind", "some", "handed", "found"] ["script"] (defScope s_law) := ⟨rfl, rfl, rfl, by decide +kernel, rfl, by decide +kernel, by decide +kernel⟩
section
variable {P : Program} {w : World} {K : PySem.W.Frag} {mg : Str → Option Value} {base : Heap}
/-! ### the spring and its draws -/
def SpringOk (H : Hp) (r : Addr) : Prop := ∃ f t c : Int, H r = some (.lst [.int f, .int t, .int c]) ∧ 0 ≤ f ∧ 0 ≤ t ∧ t < 2305843009213693951 ∧ 0 ≤ c
theorem SpringOk.keep {H H' : Hp} {r : Addr} (h : SpringOk H r) (k : Same H H') : SpringOk H' r := by
  obtain ⟨f, t, c, e, q⟩ := h
  exact ⟨f, t, c, k _ _ e, q⟩
theorem SpringOk.keep' {H H' : Hp} {r x : Addr} (h : SpringOk H r) (k : Kp x H H') (n : r ≠ x) : SpringOk H' r := by
  obtain ⟨f, t, c, e, q⟩ := h
  exact ⟨f, t, c, k _ _ e n, q⟩
def spDraw (K : PySem.W.Frag) : Sp := fun vs H Q _ => ∃ (r : Addr) (m : Int), vs = [.ref r, .int m] ∧ SpringOk H r ∧ 0 < m ∧ m < 1073741824 ∧ ∀ (n : Int) (H' : Hp), 0 ≤ n → n < m → SpringOk H' r → Kp r H H' → Q (.int n) H'
theorem ok_draw {f : Addr} {fd : FuncData} (F : Fun K "_law_draw" "_law_draw" s_Ldraw f fd) : FnOk P w K mg base CX0 1 f fd ["spring", "many"] (spDraw K) := by
  refine F.ok sc_Ldraw (fun vs H Q E h => ?_) (fun cdv A outer s H vs Q E hr h => ?_)
  · obtain ⟨r, m, rfl, _⟩ := h
    rfl
  · obtain ⟨r, m, rfl, ⟨f, t, c, hs, hf, ht, ht2, hc⟩, m0, m1, k⟩ := h
    refine ⟨_, (pss_cons (ps_if (pt_cmpR op_gt (pe_ix (ix_listK (K := K) rfl) (pv 0) pe_int (fun _ _ => rfl)) pe_int (nomark _)) (pss_cons (ps_set (i := 2) sc_Ldraw.nd rfl (Or.inl rfl) (pe_op op_mod (pe_ix (ix_listK (K := K) rfl) (pv 0) pe_int (fun _ _ => rfl)) (pv 1)))
      (pss_cons (ps_asg (pe_op op_fdiv (pe_ix (ix_listK (K := K) rfl) (pv 0) pe_int (fun _ _ => rfl)) (pv 1)) (pg_sub (pv 0) pe_int set_list))
      (pss_one (ps_ret (pv 2))))) pss_nil)
      (pss_cons (ps_asg (pe_op op_add (pe_ix (ix_listK (K := K) rfl) (pv 0) pe_int (fun _ _ => rfl)) pe_int) (pg_sub (pv 0) pe_int set_list))
      (pss_cons (ps_set (i := 3) sc_Ldraw.nd rfl (Or.inl rfl) (pe_op op_mod (pe_op op_mul (pe_ix (ix_listK (K := K) rfl) (pv 0) pe_int (fun _ _ => rfl)) (pe_ix (ix_listK (K := K) rfl) (pv 0) pe_int (fun _ _ => rfl))) pe_int))
      (pss_cons (ps_asg (pe_op op_mod (pe_op op_add (pe_op op_add (pv 3) (pe_op op_mul (pe_op op_mul pe_int (pe_ix (ix_listK (K := K) rfl) (pv 0) pe_int (fun _ _ => rfl))) (pe_ix (ix_listK (K := K) rfl) (pv 0) pe_int (fun _ _ => rfl)))) pe_int) pe_int) (pg_sub (pv 0) pe_int set_list))
      (pss_one (ps_ret (pe_op op_mod (pe_op op_fdiv (pe_ix (ix_listK (K := K) rfl) (pv 0) pe_int (fun _ _ => rfl)) pe_int) (pv 1)))))))), ?_⟩
    refine ⟨_, rfl, _, _, _, _, rfl, rfl, SqL.of hs, rfl, _, _, rfl, rfl, _, rfl, ?_⟩
    refine ite2 (fun h0 => ?_) (fun h0 => ?_)
    · -- found = spring[0] % many
      refine ⟨_, rfl, _, _, _, _, rfl, rfl, SqL.of hs, rfl, _, rfl, _, _, rfl, rfl, m0, ?_⟩
      -- spring[0] = spring[0] // many
      refine ⟨_, rfl, _, _, _, _, rfl, rfl, SqL.of hs, rfl, _, rfl, _, _, rfl, rfl, ⟨m0, m1⟩, _, rfl, _, _, _, _, rfl, rfl, hs, rfl, ?_⟩
      refine ⟨_, rfl, ?_⟩
      exact k _ _ (Int.emod_nonneg _ (by omega)) (Int.emod_lt_of_pos _ m0) ⟨_, _, _, upd_same, Int.ediv_nonneg hf (by omega), ht, ht2, hc⟩ Kp.set
    · -- spring[2] = spring[2] + 1
      refine ⟨_, rfl, _, _, _, _, rfl, rfl, SqL.of hs, rfl, _, _, rfl, rfl, _, rfl, _, _, _, _, rfl, rfl, hs, rfl, ?_⟩
      -- stir = spring[1] * spring[1] % M
      refine ⟨_, rfl, _, _, _, _, rfl, rfl, SqL.of upd_same, rfl, _, rfl, _, _, _, _, rfl, rfl, SqL.of upd_same, rfl, _, _, rfl, rfl, .inl ⟨by omega, by omega⟩, _, _, rfl, rfl, (by show (0 : Int) < 2305843009213693951; decide), ?_⟩
      -- spring[1] = ..
      refine ⟨_, rfl, _, rfl, _, _, _, _, rfl, rfl, SqL.of upd_same, rfl, _, _, rfl, rfl, .inl ⟨by decide, by decide⟩, _, rfl, _, _, _, _, rfl, rfl, SqL.of upd_same, rfl, _, _, rfl, rfl, .inr ⟨by omega, by omega⟩, _, _, rfl, rfl, _, _, rfl, rfl, _, _, rfl, rfl, (by show (0 : Int) < 2305843009213693951; decide),
        _, rfl, _, _, _, _, rfl, rfl, upd_same, rfl, ?_⟩
      refine ⟨_, rfl, _, _, _, _, rfl, rfl, SqL.of upd_same, rfl, _, _, rfl, rfl, (by show CDiv _ 65537; exact ⟨by decide, by decide⟩), _, rfl, _, _, rfl, rfl, m0, ?_⟩
      refine k _ _ (Int.emod_nonneg _ (by omega)) (Int.emod_lt_of_pos _ m0) ⟨_, _, _, upd_same, hf, Int.emod_nonneg _ (by decide), Int.emod_lt_of_pos _ (by decide), ?_⟩ ?_
      · show 0 ≤ c + 1
        omega
      · rw [upd_upd]
        exact Kp.set
def spSpring (K : PySem.W.Frag) : Sp := fun vs H Q _ => ∃ (a : Addr) (ns : List Int), vs = [.ref a] ∧ SqL K H a (ns.map V.int) ∧ ns.length ≤ 63 ∧ ∀ (r : Addr) (H' : Hp), H r = none → SpringOk H' r → Same H H' → Q (.ref r) H'
theorem bits60 : Builtin.Int.intBits ((10 : Int) ^ ((60 : Int).toNat)) ≤ 200 := PySem.intBits_le_iff.mpr (by decide)
theorem ok_spring {f : Addr} {fd : FuncData} (F : Fun K "_law_spring" "_law_spring" s_Lspring f fd) (Bt : Blt mg) : FnOk P w K mg base CX0 1 f fd ["script"] (spSpring K) := by
  refine F.ok sc_Lspring (fun vs H Q E h => ?_) (fun cdv A outer s H vs Q E hr h => ?_)
  · obtain ⟨a, ns, rfl, _⟩ := h
    rfl
  · obtain ⟨a, ns, rfl, hs, hlen, k⟩ := h
    refine ⟨_, (pss_cons (ps_set (i := 1) sc_Lspring.nd rfl (Or.inl rfl) pe_int)
      (pss_cons (ps_set (i := 2) sc_Lspring.nd rfl (Or.inl rfl) pe_int)
      (pss_cons (ps_for PassesOwn.never rfl (pi_listK (K := K) rfl (pe_slice (sl_listK (K := K) rfl) (pv 0) po_none (po_some pe_int))) (pg_name (i := 3) sc_Lspring.nd rfl (Or.inl rfl))
      (pss_cons (ps_if (pt_cmpR op_ge (pe_callB call_abs (by rfl) Bt.b_abs bt_abs (pa_cons (pv 3) pa_nil)) (pe_op op_pow pe_int pe_int) (nomark _)) (pss_one (ps_set (i := 1) sc_Lspring.nd rfl (Or.inl rfl) (pe_op op_add (pe_op op_mulB (pv 1) (pe_op op_pow pe_int pe_int)) (pe_op op_mod (pe_callB call_abs (by rfl) Bt.b_abs bt_abs (pa_cons (pv 3) pa_nil)) (pe_op op_pow pe_int pe_int))))) pss_nil)
      (pss_one (ps_set (i := 2) sc_Lspring.nd rfl (Or.inl rfl) (pe_op op_mod (pe_op op_add (pe_op op_add (pe_op op_mul (pv 2) pe_int) (pe_op op_mod (pv 3) pe_int)) pe_int) pe_int)))))
      (pss_one (ps_ret (pe_lst (pa_cons (pv 1) (pa_cons (pv 2) (pa_cons pe_int pa_nil))))))))), ?_⟩
    -- for cell in script[:63]
    refine ⟨_, rfl, _, rfl, _, _, rfl, hs, fun p hp => ?_⟩
    have hcut : cutV (ns.map V.int) none (some 63) = ns.map V.int := by
      unfold cutV
      rw [HT.sIx_none, show (some (63 : Int)) = some ((63 : Nat) : Int) from rfl, HT.sIx_nat, List.length_map, List.drop_zero, Nat.min_eq_right hlen, Nat.sub_zero, List.take_of_length_le (by simp)]
    rw [hcut]
    refine ⟨p, rfl, ⟨_, SqL.of upd_same⟩, for_list (K := K) (a := p) (xs := ns.map V.int) (fun i σ H2 => ∃ (f t : Int) (v : Option V), σ = [some (.ref a), some (.int f), some (.int t), v] ∧ H2 = upd H p (.lst (ns.map V.int)) ∧ 0 ≤ f ∧ Builtin.Int.intBits f ≤ 201 * i ∧ 0 ≤ t ∧ t < 2305843009213693951)
      ⟨0, 88651, none, rfl, rfl, by decide, by decide, by decide, by decide⟩ (fun i σ H2 _ ⟨_, _, _, _, e, _⟩ => by rw [e]; exact SqL.of upd_same) ?_ ?_⟩
    · rintro i y σ H2 hi ⟨f, t, v, rfl, rfl, hf, hb, ht, ht2⟩
      have hil : i < ns.length := by have := (List.getElem?_eq_some_iff.mp hi).1; rwa [List.length_map] at this
      obtain ⟨z, rfl⟩ : ∃ z, y = V.int z := by
        rw [List.getElem?_map] at hi
        cases e : ns[i]? with
        | none => rw [e] at hi; cases hi
        | some z => rw [e] at hi; exact ⟨z, (Option.some.inj hi).symm⟩
      refine ⟨_, rfl, _, rfl, _, _, rfl, rfl, (by show CPow 10 18; exact ⟨by decide, by decide, by decide⟩), _, _, rfl, rfl, _, rfl, ?_⟩
      have hcp : CPow 10 60 := ⟨by decide, by decide, by decide⟩
      refine ite2 (fun _ => ?_) (fun _ => ?_)
      · have hmul : IntMulOk f ((10 : Int) ^ ((60 : Int).toNat)) := IntMulOk.of_le hb bits60 (by omega)
        have hpos : (0 : Int) < (10 : Int) ^ ((60 : Int).toNat) := by decide
        have habs : (0 : Int) ≤ (if z < 0 then -z else z) % ((10 : Int) ^ ((60 : Int).toNat)) := Int.emod_nonneg _ (Int.ne_of_gt hpos)
        have hbits : Builtin.Int.intBits ((if z < 0 then -z else z) % ((10 : Int) ^ ((60 : Int).toNat))) ≤ 200 :=
          PySem.intBits_le_of_natAbs (y := (10 : Int) ^ ((60 : Int).toNat)) (by have := Int.emod_lt_of_pos (if z < 0 then -z else z) hpos; omega) bits60
        refine ⟨_, rfl, _, _, rfl, rfl, hcp, _, _, rfl, rfl, hmul, _, rfl, _, rfl, _, _, rfl, rfl, hcp, _, _, rfl, rfl, hpos, _, _, rfl, rfl, ?_⟩
        refine ⟨_, rfl, _, _, rfl, rfl, .inr ⟨by decide, by decide⟩, _, rfl, _, _, rfl, rfl, (by show (0 : Int) < 2305843009213693921; decide), _, _, rfl, rfl, _, _, rfl, rfl, _, _, rfl, rfl, (by show (0 : Int) < 2305843009213693951; decide), ?_⟩
        refine ⟨_, _, _, rfl, rfl, Int.add_nonneg (Int.mul_nonneg hf (Int.le_of_lt hpos)) habs, ?_, Int.emod_nonneg _ (by decide), Int.emod_lt_of_pos _ (by decide)⟩
        have q := PySem.intBits_add_le (PySem.intBits_mul_le hb bits60) hbits
        have : max (201 * i + 200) 200 + 1 = 201 * (i + 1) := by omega
        rw [this] at q
        exact q
      · refine ⟨_, rfl, _, _, rfl, rfl, .inr ⟨by decide, by decide⟩, _, rfl, _, _, rfl, rfl, (by show (0 : Int) < 2305843009213693921; decide), _, _, rfl, rfl, _, _, rfl, rfl, _, _, rfl, rfl, (by show (0 : Int) < 2305843009213693951; decide), ?_⟩
        exact ⟨_, _, _, rfl, rfl, hf, by omega, Int.emod_nonneg _ (by decide), Int.emod_lt_of_pos _ (by decide)⟩
    · rintro σ H2 ⟨f, t, v, rfl, rfl, hf, hb, ht, ht2⟩
      refine ⟨_, rfl, _, rfl, (by show 3 ≤ sizeLine; decide), fun r hr' => ?_⟩
      exact k r _ ((same_new hp).free hr') ⟨f, t, 0, upd_same, hf, ht, ht2, by decide⟩ ((same_new hp).trans (same_new hr'))

/-! ### a web -/
abbrev Tch := Int × Str × Int
def tD (x : Tch) : PyData := .tuple [.int x.1, .str x.2.1, .int x.2.2]
theorem imm_tD (x : Tch) : imm (tD x) = true := rfl
def TchOk (x : Tch) : Prop := (0 ≤ x.1 ∧ x.1 < 8) ∧ (x.2.1 = "load" ∨ x.2.1 = "store" ∨ x.2.1 = "swap") ∧ (0 ≤ x.2.2 ∧ x.2.2 < 20)
theorem dat_tch {H : Hp} {t : Addr} {x : Tch} (h : H t = some (.tup [.int x.1, .str x.2.1, .int x.2.2])) : Dat H (.ref t) (tD x) := by
  simp only [tD, Dat]
  exact ⟨t, _, rfl, h, by simp only [Dats, Dat, and_self]⟩
theorem dats_one {H : Hp} {v : V} {d : PyData} (h : Dat H v d) : Dats H [v] [d] := by
  simp only [Dats, and_true]
  exact h
/-- a list of touches stands at a -/
def WebAt (H : Hp) (a : Addr) (ws : List Tch) : Prop := ∃ vs, H a = some (.lst vs) ∧ Dats H vs (ws.map tD)
theorem WebAt.same {H H' : Hp} {a : Addr} {ws : List Tch} (h : WebAt H a ws) (k : Same H H') : WebAt H' a ws := by
  obtain ⟨vs, e, d⟩ := h
  exact ⟨vs, k _ _ e, Dats.keep k.tups _ (imms_map _ imm_tD ws) d⟩
theorem WebAt.kp {H H' : Hp} {a r : Addr} {ws : List Tch} {ys : List V} (h : WebAt H a ws) (hr : H r = some (.lst ys)) (k : Kp r H H') (n : a ≠ r) : WebAt H' a ws := by
  obtain ⟨vs, e, d⟩ := h
  exact ⟨vs, k _ _ e n, Dats.keep (k.tups hr) _ (imms_map _ imm_tD ws) d⟩
theorem WebAt.spr {H H' : Hp} {a r : Addr} {ws : List Tch} (h : WebAt H a ws) (hr : SpringOk H r) (k : Kp r H H') (n : a ≠ r) : WebAt H' a ws := by
  obtain ⟨f, t, c, e, _⟩ := hr
  exact h.kp e k n
def spWeb (K : PySem.W.Frag) : Sp := fun vs H Q _ => ∃ (r : Addr) (most : Int), vs = [.ref r, .int most] ∧ SpringOk H r ∧ 0 ≤ most ∧ most ≤ 300 ∧
  ∀ (a : Addr) (ws : List Tch) (H' : Hp), H a = none → WebAt H' a ws → (∀ x ∈ ws, TchOk x) → ws.length ≤ 300 → SpringOk H' r → Kp r H H' → Q (.ref a) H'
theorem menu3 (most : Int) (h0 : 0 ≤ most) (h1 : most ≤ 300) (b1 b2 : Bool) : ∃ v : Int, atI [V.int 31, V.int 101, V.int (most + 1)] ((if b1 then 1 else 0) + (if b2 then 1 else 0)) = some (V.int v) ∧ 0 < v ∧ v ≤ 301 := by
  cases b1 <;> cases b2
  · exact ⟨31, rfl, by decide, by decide⟩
  · exact ⟨101, rfl, by decide, by decide⟩
  · exact ⟨101, rfl, by decide, by decide⟩
  · exact ⟨most + 1, rfl, by omega, by omega⟩
theorem menu5 (n : Int) (h0 : 0 ≤ n) (h1 : n < 5) : ∃ v : Int, atI [V.int 1, V.int 2, V.int 3, V.int 5, V.int 20] n = some (V.int v) ∧ 0 < v ∧ v ≤ 20 := by
  have : n = 0 ∨ n = 1 ∨ n = 2 ∨ n = 3 ∨ n = 4 := by omega
  rcases this with rfl | rfl | rfl | rfl | rfl
  · exact ⟨1, rfl, by decide, by decide⟩
  · exact ⟨2, rfl, by decide, by decide⟩
  · exact ⟨3, rfl, by decide, by decide⟩
  · exact ⟨5, rfl, by decide, by decide⟩
  · exact ⟨20, rfl, by decide, by decide⟩
/-- a list of kinds -/
def KindsOk (ks : List Str) : Prop := 0 < ks.length ∧ ks.length ≤ 6 ∧ ∀ k ∈ ks, k = "load" ∨ k = "store" ∨ k = "swap"
theorem atI_int {α : Type} {xs : List α} {n : Int} (h0 : 0 ≤ n) (h1 : n < xs.length) : ∃ v, atI xs n = some v ∧ xs[n.toNat]? = some v := by
  obtain ⟨m, rfl⟩ := Int.eq_ofNat_of_zero_le h0
  have : m < xs.length := by omega
  exact ⟨xs[m], atI_nat (by simp [this]), by simp [this]⟩
/-- the names of ok_web as they stand -/
def wSt (a0 : Addr) (a1 : Int) (a2 : Int) (a3 : Int) (a4 : Int) (a5 : Int) (a6 : Int) (a7 : Int) (a8 : Addr) (x9 : Option V) (x10 : Option V) (x11 : Option V) (x12 : Option V) : St := [some (.ref a0), some (.int a1), some (.int a2), some (.int a3), some (.int a4), some (.int a5), some (.int a6), some (.int a7), some (.ref a8), x9, x10, x11, x12]
theorem ok_web {f : Addr} {fd : FuncData} (F : Fun K "_law_web" "_law_web" s_Lweb f fd) (F_Ldraw : FnAt P w K mg base 1 "_law_draw" ["spring", "many"] (spDraw K)) (Bt : Blt mg) : FnOk P w K mg base CX0 2 f fd ["spring", "most"] (spWeb K) := by
  refine F.ok sc_Lweb (fun vs H Q E h => ?_) (fun cdv A outer s H vs Q E hr h => ?_)
  · obtain ⟨r, m, rfl, _⟩ := h
    rfl
  · obtain ⟨r, most, rfl, S0, mo0, mo1, k⟩ := h
    refine ⟨_, (pss_cons (ps_set (i := 2) sc_Lweb.nd rfl (Or.inl rfl) (pe_fn F_Ldraw (hr.mono (by decide)) (by rfl) (pa_cons (pv 0) (pa_cons pe_int pa_nil))))
      (pss_cons (ps_set (i := 3) sc_Lweb.nd rfl (Or.inl rfl) (pe_fn F_Ldraw (hr.mono (by decide)) (by rfl) (pa_cons (pv 0) (pa_cons (pe_ix (ix_listK (K := K) rfl) (pe_lst (pa_cons pe_int (pa_cons pe_int (pa_cons (pe_op op_add (pv 1) pe_int) pa_nil)))) (pe_op op_add (pe_callTy call_int1 (by rfl) Bt.b_int bt_int (pa_cons (pe_cmpR op_eq (pe_op op_mod (pv 2) pe_int) pe_int (nomark _)) pa_nil)) (pe_callTy call_int1 (by rfl) Bt.b_int bt_int (pa_cons (pe_cmpR op_eq (pv 2) pe_int (nomark _)) pa_nil))) (fun _ _ => rfl)) pa_nil))))
      (pss_cons (ps_set (i := 4) sc_Lweb.nd rfl (Or.inl rfl) (pe_op op_add pe_int (pe_fn F_Ldraw (hr.mono (by decide)) (by rfl) (pa_cons (pv 0) (pa_cons pe_int pa_nil)))))
      (pss_cons (ps_set (i := 5) sc_Lweb.nd rfl (Or.inl rfl) (pe_fn F_Ldraw (hr.mono (by decide)) (by rfl) (pa_cons (pv 0) (pa_cons pe_int pa_nil))))
      (pss_cons (ps_set (i := 6) sc_Lweb.nd rfl (Or.inl rfl) (pe_ix (ix_listK (K := K) rfl) (pe_lst (pa_cons pe_int (pa_cons pe_int (pa_cons pe_int (pa_cons pe_int (pa_cons pe_int pa_nil)))))) (pe_fn F_Ldraw (hr.mono (by decide)) (by rfl) (pa_cons (pv 0) (pa_cons pe_int pa_nil))) (fun _ _ => rfl)))
      (pss_cons (ps_set (i := 7) sc_Lweb.nd rfl (Or.inl rfl) (pe_fn F_Ldraw (hr.mono (by decide)) (by rfl) (pa_cons (pv 0) (pa_cons pe_int pa_nil))))
      (pss_cons (ps_set (i := 8) sc_Lweb.nd rfl (Or.inl rfl) (pe_lst (pa_cons pe_str (pa_cons pe_str (pa_cons pe_str pa_nil)))))
      (pss_cons (ps_if (pt_cmpR op_eq (pe_fn F_Ldraw (hr.mono (by decide)) (by rfl) (pa_cons (pv 0) (pa_cons pe_int pa_nil))) pe_int (nomark _)) (pss_one (ps_set (i := 8) sc_Lweb.nd rfl (Or.inl rfl) (pe_lst (pa_cons pe_str (pa_cons pe_str (pa_cons pe_str (pa_cons pe_str (pa_cons pe_str (pa_cons pe_str pa_nil))))))))) pss_nil)
      (pss_cons (ps_set (i := 9) sc_Lweb.nd rfl (Or.inl rfl) (pe_lst pa_nil))
      (pss_cons (ps_for PassesOwn.never rfl (pi_range1 (by rfl) Bt.b_range (pa_cons (pv 3) pa_nil)) (pg_name (i := 10) sc_Lweb.nd rfl (Or.inl rfl))
      (pss_cons (ps_set (i := 11) sc_Lweb.nd rfl (Or.inl rfl) (pe_op op_mod (pe_op op_add (pv 5) (pe_fn F_Ldraw (hr.mono (by decide)) (by rfl) (pa_cons (pv 0) (pa_cons (pv 4) pa_nil)))) pe_int))
      (pss_cons (ps_set (i := 12) sc_Lweb.nd rfl (Or.inl rfl) (pe_ix (ix_listK (K := K) rfl) (pv 8) (pe_fn F_Ldraw (hr.mono (by decide)) (by rfl) (pa_cons (pv 0) (pa_cons (pe_callB (call_len_seqK (K := K) rfl) (by rfl) Bt.b_len bt_len (pa_cons (pv 8) pa_nil)) pa_nil))) (fun _ _ => rfl)))
      (pss_one (ps_expr (pe_appendK (K := K) rfl (pv 9) (pa_cons (pe_tup (pa_cons (pv 11) (pa_cons (pv 12) (pa_cons (pe_op op_mod (pe_op op_add (pv 7) (pe_fn F_Ldraw (hr.mono (by decide)) (by rfl) (pa_cons (pv 0) (pa_cons (pv 6) pa_nil)))) pe_int) pa_nil)))) pa_nil)))))))
      (pss_one (ps_ret (pv 9))))))))))))), ?_⟩
    -- shape
    refine seq_one (fun R g => ?_)
    refine ⟨_, rfl, r, 32, rfl, S0, by decide, by decide, fun n1 H1 a1 b1 S1 k1 => ?_⟩
    refine g _ _ ?_
    -- size
    refine seq_one (fun R g => ?_)
    refine ⟨_, rfl, _, rfl, _, _, rfl, rfl, (by show 3 ≤ sizeLine; decide), fun p hp => ?_⟩
    obtain ⟨v1, e1, v10, v11⟩ := menu3 most mo0 mo1 (decide (V.int (n1 % 8) = V.int 7)) (decide (V.int n1 = V.int 31))
    have sm1 := same_new (o := HO.lst [V.int 31, V.int 101, V.int (most + 1)]) hp
    have S1' := S1.keep sm1
    refine ⟨_, rfl, _, _, rfl, rfl, (by show (0 : Int) < 8; decide), rfl, Or.inr ⟨_, rfl, _, rfl, rfl, Or.inr ⟨_, rfl, _, _, rfl, rfl, _, _, _, _, rfl, rfl, SqL.of upd_same, e1, ?_⟩⟩⟩
    refine ⟨r, v1, rfl, S1', v10, by omega, fun n2 H2 a2 b2 S2 k2 => ?_⟩
    refine g _ _ ?_
    -- hands, first
    refine seq_one (fun R g => ?_)
    refine ⟨_, rfl, r, 8, rfl, S2, by decide, by decide, fun n3 H3 a3 b3 S3 k3 => ⟨_, _, rfl, rfl, ?_⟩⟩
    refine g _ _ ?_
    refine seq_one (fun R g => ?_)
    refine ⟨_, rfl, r, 8, rfl, S3, by decide, by decide, fun n4 H4 a4 b4 S4 k4 => ?_⟩
    refine g _ _ ?_
    -- room
    refine seq_one (fun R g => ?_)
    refine ⟨(by show 5 ≤ sizeLine; decide), fun p2 hp2 => ?_⟩
    have sm2 := same_new (o := HO.lst [V.int 1, V.int 2, V.int 3, V.int 5, V.int 20]) hp2
    refine ⟨_, rfl, r, 5, rfl, S4.keep sm2, by decide, by decide, fun n5 H5 a5 b5 S5 k5 => ?_⟩
    obtain ⟨v2, e2, v20, v21⟩ := menu5 n5 a5 b5
    have np2 : p2 ≠ r := by
      obtain ⟨f, t, c, e, _⟩ := S4
      exact (ne_of_none e hp2).symm
    refine ⟨_, _, _, _, rfl, rfl, SqL.of (k5 _ _ upd_same np2), e2, ?_⟩
    refine g _ _ ?_
    -- base
    refine seq_one (fun R g => ?_)
    refine ⟨_, rfl, r, 20, rfl, S5, by decide, by decide, fun n6 H6 a6 b6 S6 k6 => ?_⟩
    refine g _ _ ?_
    have kk : Kp r H H6 := ((((((k1.trans (.of_same sm1)).trans k2).trans k3).trans k4).trans (.of_same sm2)).trans k5).trans k6
    -- kinds
    refine seq_one (fun R g => ?_)
    refine ⟨(by show 3 ≤ sizeLine; decide), fun q hq => ?_⟩
    have sm3 := same_new (o := HO.lst [V.str "load", V.str "store", V.str "swap"]) hq
    refine g _ _ ?_
    have nq : q ≠ r := by
      obtain ⟨f, t, c, e, _⟩ := S6
      exact (ne_of_none e hq).symm
    refine ⟨_, rfl, r, 3, rfl, S6.keep sm3, by decide, by decide, fun n7 H7 a7 b7 S7 k7 => ?_⟩
    -- what is behind the choice of the kinds
    have rest : ∀ (kd : Addr) (ks : List Str) (H8 : Hp), KindsOk ks → kd ≠ r → H8 kd = some (.lst (ks.map V.str)) → SpringOk H8 r → Kp r H H8 →
        ∀ t : TS, t = tSeq (tAsg (tLst tNil) (gName 9)) (tSeq (tFor (iRng1 (tCons (tVar 3) tNil)) (gName 10)
          (tSeq (tAsg (tOp (rI (fun _ j => 0 < j) fun i j => V.int (i % j)) (tOp (rI0 fun i j => V.int (i + j)) (tVar 5) (tCall (spDraw K) [] E0 (tCons (tVar 0) (tCons (tVar 4) tNil)))) (tC (V.int 8))) (gName 11))
            (tSeq (tAsg (tOp (rIxL K) (tVar 8) (tCall (spDraw K) [] E0 (tCons (tVar 0) (tCons (tCB (rLen K) (tCons (tVar 8) tNil)) tNil)))) (gName 12))
              (tDrop (tBM K "list" rAppend (tVar 9) (tCons (tTup (tCons (tVar 11) (tCons (tVar 12) (tCons (tOp (rI (fun _ j => 0 < j) fun i j => V.int (i % j)) (tOp (rI0 fun i j => V.int (i + j)) (tVar 7) (tCall (spDraw K) [] E0 (tCons (tVar 0) (tCons (tVar 6) tNil)))) (tC (V.int 20))) tNil)))) tNil))))))
          (tRet (tVar 9))) →
        t { nx := fun _ H' => Q .non H', rt := Q } (wSt r most n1 n2 (1 + n3) n4 v2 n6 kd none none none none) H8 := by
      intro kd ks H8 hks nk hk S8 k8 t et
      subst et
      refine ⟨(by show 0 ≤ sizeLine; decide), fun w hw => ?_⟩
      have sm4 := same_new (o := HO.lst []) hw
      have nw : w ≠ r := by
        obtain ⟨f, t, c, e, _⟩ := S8
        exact (ne_of_none e hw).symm
      have nwk : w ≠ kd := (ne_of_none hk hw).symm
      have fresh : H w = none := by
        cases e : H w with
        | none => rfl
        | some o => rw [k8 w o e nw] at hw; cases hw
      refine ⟨_, rfl, n2, rfl, by omega, by omega, for_range (lo := 0) (n := n2.toNat) (fun i σ H2 => ∃ (ws : List Tch) (x1 x2 x3 : Option V), σ = (wSt r most n1 n2 (1 + n3) n4 v2 n6 kd (some (.ref w)) x1 x2 x3) ∧
        WebAt H2 w ws ∧ (∀ x ∈ ws, TchOk x) ∧ ws.length = i ∧ SpringOk H2 r ∧ Kp r H H2 ∧ H2 kd = some (.lst (ks.map V.str)))
        ⟨[], none, none, none, rfl, ⟨[], upd_same, by simp only [List.map_nil, Dats]⟩, by simp, rfl, S8.keep sm4, k8.trans (.of_same sm4), sm4 _ _ hk⟩ ?_ ?_⟩
      · rintro i σ H2 hi ⟨ws, x1, x2, x3, rfl, W2, ok2, len2, S2', kp2, hk2⟩
        -- hand
        refine ⟨_, rfl, _, rfl, _, rfl, r, _, rfl, S2', by omega, by omega, fun m1 G1 c1 d1 T1 j1 => ⟨_, _, rfl, rfl, _, _, rfl, rfl, (by show (0 : Int) < 8; decide), ?_⟩⟩
        -- kind
        have hk3 := j1 _ _ hk2 nk
        refine ⟨_, rfl, _, rfl, _, rfl, kd, _, rfl, .inl (SqL.of hk3), r, _, rfl, T1, ?_, ?_, fun m2 G2 c2 d2 T2 j2 => ?_⟩
        · have := hks.1; rw [List.length_map]; omega
        · have := hks.2.1; rw [List.length_map]; omega
        rw [List.length_map] at d2
        obtain ⟨kv, ek, ek'⟩ := atI_int (xs := ks.map V.str) c2 (by rw [List.length_map]; exact d2)
        obtain ⟨kind, ekind, rfl⟩ : ∃ kind, ks[m2.toNat]? = some kind ∧ V.str kind = kv := by
          rw [List.getElem?_map] at ek'
          cases e : ks[m2.toNat]? with
          | none => rw [e] at ek'; cases ek'
          | some z => rw [e] at ek'; exact ⟨z, rfl, Option.some.inj ek'⟩
        have hk4 := j2 _ _ hk3 nk
        refine ⟨_, _, _, _, rfl, rfl, SqL.of hk4, ek, ?_⟩
        -- web.append((hand, kind, cell))
        have W3 := (W2.spr S2' j1 nw).spr T1 j2 nw
        obtain ⟨vs3, hw3, dt3⟩ := id W3
        refine ⟨_, rfl, .inl ⟨rfl, _, SqL.of hw3⟩, _, rfl, _, rfl, _, rfl, _, rfl, _, rfl, r, v2, rfl, T2, v20, by omega, fun m3 G3 c3 d3 T3 j3 => ⟨_, _, rfl, rfl, _, _, rfl, rfl, (by show (0 : Int) < 20; decide), (by show 3 ≤ sizeLine; decide), fun tp htp => ?_⟩⟩
        have W4 := W3.spr T2 j3 nw
        have smt := same_new (o := HO.tup [V.int ((n4 + m1) % 8), V.str kind, V.int ((n6 + m3) % 20)]) htp
        obtain ⟨vs5, hw5, dt5⟩ := W4.same smt
        have len5 : vs5.length = i := by rw [dt5.length, List.length_map, len2]
        refine ⟨w, vs5, _, rfl, rfl, hw5, (by rw [len5, sizeLine_eq]; omega), ?_⟩
        have kset : Kp w (upd G3 tp (HO.tup [V.int ((n4 + m1) % 8), V.str kind, V.int ((n6 + m3) % 20)])) (upd (upd G3 tp (HO.tup [V.int ((n4 + m1) % 8), V.str kind, V.int ((n6 + m3) % 20)])) w (HO.lst (vs5 ++ [V.ref tp]))) := Kp.set
        refine ⟨ws ++ [((n4 + m1) % 8, kind, (n6 + m3) % 20)], _, _, _, rfl, ⟨_, upd_same, ?_⟩, ?_, ?_, ?_, ?_, ?_⟩
        · rw [List.map_append]
          refine Dats.append (Dats.keep (kset.tups hw5) _ (imms_map _ imm_tD ws) dt5) ?_
          exact dats_one (dat_tch (x := ((n4 + m1) % 8, kind, (n6 + m3) % 20)) (kset _ _ upd_same (ne_of upd_same hw5 (by intro z; cases z))))
        · intro x hx
          rcases List.mem_append.mp hx with hx | hx
          · exact ok2 x hx
          · rw [List.mem_singleton] at hx
            subst hx
            exact ⟨⟨Int.emod_nonneg _ (by decide), Int.emod_lt_of_pos _ (by decide)⟩, hks.2.2 kind (List.mem_of_getElem? ekind), ⟨Int.emod_nonneg _ (by decide), Int.emod_lt_of_pos _ (by decide)⟩⟩
        · rw [List.length_append, len2]; rfl
        · exact (T3.keep smt).keep' kset nw.symm
        · have u1 : Kp r H G3 := ((kp2.trans j1).trans j2).trans j3
          intro b o e n
          refine kset b o (smt b o (u1 b o e n)) ?_
          rintro rfl
          rw [fresh] at e
          cases e
        · exact kset _ _ (smt _ _ (j3 _ _ hk4 nk)) nwk.symm
      · rintro σ H2 ⟨ws, x1, x2, x3, rfl, W2, ok2, len2, S2', kp2, hk2⟩
        exact ⟨_, rfl, k w ws H2 fresh W2 ok2 (by omega) S2' kp2⟩
    refine ⟨rfl, _, rfl, ?_⟩
    have hq7 := k7 _ _ (upd_same (H := H6) (a := q) (o := HO.lst [V.str "load", V.str "store", V.str "swap"])) nq
    have k67 : Kp r H H7 := (kk.trans (.of_same sm3)).trans k7
    refine ite2 (fun _ => ?_) (fun _ => ?_)
    · refine ⟨(by show 6 ≤ sizeLine; decide), fun q2 hq2 => ?_⟩
      have sm5 := same_new (o := HO.lst [V.str "load", V.str "load", V.str "load", V.str "load", V.str "store", V.str "swap"]) hq2
      have nq2 : q2 ≠ r := by
        obtain ⟨f, t, c, e, _⟩ := S7
        exact (ne_of_none e hq2).symm
      exact rest q2 ["load", "load", "load", "load", "store", "swap"] _ ⟨by decide, by decide, by simp⟩ nq2 upd_same (S7.keep sm5) (k67.trans (.of_same sm5)) _ rfl
    · exact rest q ["load", "store", "swap"] _ ⟨by decide, by decide, by simp⟩ nq hq7 S7 k67 _ rfl

theorem dat_tch_inv {H : Hp} {v : V} {x : Tch} (h : Dat H v (tD x)) : ∃ t, v = .ref t ∧ H t = some (.tup [.int x.1, .str x.2.1, .int x.2.2]) := by
  simp only [tD, Dat] at h
  obtain ⟨t, vs, e, q, d⟩ := h
  match vs, d with
  | [a, b, c], d =>
    simp only [Dats, Dat, and_true] at d
    obtain ⟨rfl, rfl, rfl⟩ := d
    exact ⟨t, e, q⟩
  | [], d => simp only [Dats] at d
  | [_], d => simp only [Dats, and_false] at d
  | [_, _], d => simp only [Dats, and_false] at d
  | _ :: _ :: _ :: _ :: _, d => simp only [Dats, and_false] at d

/-! ### webs compared -/
theorem eqv_tD (x y : Tch) : PyData.eqv (tD x) (tD y) = decide (x = y) := by
  obtain ⟨a, b, c⟩ := x
  obtain ⟨a', b', c'⟩ := y
  simp only [tD, PyData.eqv, PyData.eqvAll, Bool.and_true]
  by_cases e1 : a = a'
  · subst e1
    by_cases e2 : b = b'
    · subst e2
      by_cases e3 : c = c'
      · subst e3; simp
      · simp [e3]
    · simp [e2]
  · simp [e1]
theorem shaped_web {ws : List Tch} (ok : ∀ x ∈ ws, TchOk x) : SeqAt.shaped (.list (ws.map tD)) = true := by
  refine shaped_list tD 1 (by decide) (fun x hx => ?_) (fun x _ => by show (max 0 (max 0 (max 0 0))) + 1 ≤ 1; decide)
  have e : PyData.canLay0 (tD x) = (true && (PyData.strOk x.2.1 && (true && true))) := rfl
  rw [e]
  rcases (ok x hx).2.1 with q | q | q <;> rw [q] <;> decide +kernel
theorem web_get {H : Hp} {a : Addr} {ws : List Tch} {i : Nat} {x : Tch} (h : WebAt H a ws) (e : ws[i]? = some x) : ∃ vs t, H a = some (.lst vs) ∧ vs[i]? = some (.ref t) ∧ H t = some (.tup [.int x.1, .str x.2.1, .int x.2.2]) := by
  obtain ⟨vs, ha, d⟩ := h
  obtain ⟨v, ev, dv⟩ := d.getD (i := i) (d := tD x) (by rw [List.getElem?_map, e]; rfl)
  obtain ⟨t, rfl, ht⟩ := dat_tch_inv dv
  exact ⟨vs, t, ha, ev, ht⟩

def mt (x y : Tch) : Bool := if x.1 = y.1 then false else if x.2.2 = y.2.2 then (if x.2.1 = "load" then !decide (y.2.1 = "load") else true) else false
def spWh (K : PySem.W.Frag) : Sp := fun vs H Q _ => ∃ i : Int, vs = [.int i] ∧ Q (.bl true) H
theorem ok_is_whole {f : Addr} {fd : FuncData} (F : Fun K "is_whole" "is_whole" s_is_whole f fd) (Bt : Blt mg) : FnOk P w K mg base CX0 1 f fd ["value"] (spWh K) := by
  refine F.ok sc_is_whole (fun vs H Q E h => ?_) (fun cdv A outer s H vs Q E hr h => ?_)
  · obtain ⟨i, rfl, _⟩ := h
    rfl
  · obtain ⟨i, rfl, k⟩ := h
    refine ⟨_, (pss_one (ps_ret (pe_and (pe_callB (call_isiK (K := K) (cv := .ty "int") (c := .type "int") rfl rfl) (by rfl) Bt.b_isinstance bt_isinstance (pa_cons (pv 0) (pa_cons (pe_bltn (v := .ty "int") (by rfl) Bt.b_int bt_int rfl) pa_nil))) (pe_one (pe_not (pe_callB (call_isiK (K := K) (cv := .ty "bool") (c := .type "bool") rfl rfl) (by rfl) Bt.b_isinstance bt_isinstance (pa_cons (pv 0) (pa_cons (pe_bltn (v := .ty "bool") (by rfl) Bt.b_bool bt_bool rfl) pa_nil)))))))), ?_⟩
    refine ⟨_, rfl, _, _, true, rfl, .int i, isi_int_int K, true, rfl, ?_⟩
    refine iteT ?_
    exact ⟨_, rfl, _, _, false, rfl, .int i, isi_int_bool K, false, rfl, k⟩
def spMt (K : PySem.W.Frag) : Sp := fun vs H Q _ => ∃ (a b : Addr) (x y : Tch), vs = [.ref a, .ref b] ∧ H a = some (.tup [.int x.1, .str x.2.1, .int x.2.2]) ∧ H b = some (.tup [.int y.1, .str y.2.1, .int y.2.2]) ∧ Q (.bl (mt x y)) H
theorem mt_read {K : PySem.W.Frag} {a b : Addr} {x y : Tch} {H : Hp} {Q : VK} (ha : H a = some (.tup [.int x.1, .str x.2.1, .int x.2.2])) (hb : H b = some (.tup [.int y.1, .str y.2.1, .int y.2.2])) (k : Q (.bl (mt x y)) H) {D : Ends} (hD : D.rt = Q) :
    (tSeq (tIfS (tOr (tTest (tOp rEq (tOp (rIxT K) (tVar 0) (tC (.int 0))) (tOp (rIxT K) (tVar 1) (tC (.int 0))))) (tTest (tOp rNe (tOp (rIxT K) (tVar 0) (tC (.int 2))) (tOp (rIxT K) (tVar 1) (tC (.int 2)))))) (tRet (tC (.bl false))) tNext)
      (tRet (tOrV (tOp rNe (tOp (rIxT K) (tVar 0) (tC (.int 1))) (tC (.str "load"))) (tOp rNe (tOp (rIxT K) (tVar 1) (tC (.int 1))) (tC (.str "load")))))) D [some (.ref a), some (.ref b)] H := by
  refine ⟨_, rfl, _, _, _, _, rfl, rfl, SqT.of ha, rfl, _, rfl, _, _, _, _, rfl, rfl, SqT.of hb, rfl, rfl, _, rfl, ?_⟩
  refine ite2 (fun h1 => ?_) (fun h1 => ?_)
  · have e : x.1 = y.1 := by injection (of_decide_eq_true h1)
    have em : mt x y = false := by unfold mt; rw [if_pos e]
    refine (show D.rt (.bl false) H from ?_)
    rw [hD, ← em]
    exact k
  · have e : ¬ x.1 = y.1 := fun z => h1 (decide_eq_true (by rw [z]))
    refine ⟨_, rfl, _, _, _, _, rfl, rfl, SqT.of ha, rfl, _, rfl, _, _, _, _, rfl, rfl, SqT.of hb, rfl, rfl, _, rfl, ?_⟩
    by_cases e2 : x.2.2 = y.2.2
    · refine iteNS (by rw [e2]) ?_
      refine ⟨_, rfl, _, _, _, _, rfl, rfl, SqT.of ha, rfl, rfl, _, rfl, ?_⟩
      by_cases e3 : x.2.1 = "load"
      · refine iteNS (by rw [e3]) ?_
        refine ⟨_, rfl, _, _, _, _, rfl, rfl, SqT.of hb, rfl, rfl, ?_⟩
        have em : mt x y = !decide (V.str y.2.1 = V.str "load") := by
          unfold mt
          rw [if_neg e, if_pos e2, if_pos e3]
          congr 1
          rw [Bool.eq_iff_iff, decide_eq_true_iff, decide_eq_true_iff]
          exact ⟨fun z => by rw [z], fun z => by injection z⟩
        rw [← em, hD]
        exact k
      · have ne : ¬ V.str x.2.1 = V.str "load" := fun z => e3 (by injection z)
        rw [decide_eq_false ne]
        refine iteT ?_
        have em : mt x y = true := by unfold mt; rw [if_neg e, if_pos e2, if_neg e3]
        rw [← em, hD]
        exact k
    · have ne : ¬ V.int x.2.2 = V.int y.2.2 := fun z => e2 (by injection z)
      rw [decide_eq_false ne]
      refine iteT ?_
      have em : mt x y = false := by unfold mt; rw [if_neg e, if_neg e2]
      refine (show D.rt (.bl false) H from ?_)
      rw [hD, ← em]
      exact k
theorem ok_touches_meet {f : Addr} {fd : FuncData} (F : Fun K "touches_meet" "touches_meet" s_touches_meet f fd) : FnOk P w K mg base CX0 1 f fd ["one", "other"] (spMt K) := by
  refine F.ok sc_touches_meet (fun vs H Q E h => ?_) (fun cdv A outer s H vs Q E hr h => ?_)
  · obtain ⟨a, b, x, y, rfl, _⟩ := h
    rfl
  · obtain ⟨a, b, x, y, rfl, ha, hb, k⟩ := h
    exact ⟨_, (pss_cons (ps_if (PW.pt (pw_or (pt_cmpR op_eq (pe_ix (ix_tupK (K := K) rfl) (pv 0) pe_int (fun _ _ => rfl)) (pe_ix (ix_tupK (K := K) rfl) (pv 1) pe_int (fun _ _ => rfl)) (nomark _)) (pw_or1 (pt_cmpR op_ne (pe_ix (ix_tupK (K := K) rfl) (pv 0) pe_int (fun _ _ => rfl)) (pe_ix (ix_tupK (K := K) rfl) (pv 1) pe_int (fun _ _ => rfl)) (nomark _))))) (pss_one (ps_ret pe_bl)) pss_nil)
      (pss_one (ps_ret (pe_or (pe_cmpR op_ne (pe_ix (ix_tupK (K := K) rfl) (pv 0) pe_int (fun _ _ => rfl)) pe_str (nomark _)) (pe_one (pe_cmpR op_ne (pe_ix (ix_tupK (K := K) rfl) (pv 1) pe_int (fun _ _ => rfl)) pe_str (nomark _))))))), mt_read (K := K) ha hb k rfl⟩
theorem ok_Lmeets {f : Addr} {fd : FuncData} (F : Fun K "_law_meets" "_law_meets" s_Lmeets f fd) : FnOk P w K mg base CX0 1 f fd ["one", "other"] (spMt K) := by
  refine F.ok sc_Lmeets (fun vs H Q E h => ?_) (fun cdv A outer s H vs Q E hr h => ?_)
  · obtain ⟨a, b, x, y, rfl, _⟩ := h
    rfl
  · obtain ⟨a, b, x, y, rfl, ha, hb, k⟩ := h
    exact ⟨_, (pss_cons (ps_if (PW.pt (pw_or (pt_cmpR op_eq (pe_ix (ix_tupK (K := K) rfl) (pv 0) pe_int (fun _ _ => rfl)) (pe_ix (ix_tupK (K := K) rfl) (pv 1) pe_int (fun _ _ => rfl)) (nomark _)) (pw_or1 (pt_cmpR op_ne (pe_ix (ix_tupK (K := K) rfl) (pv 0) pe_int (fun _ _ => rfl)) (pe_ix (ix_tupK (K := K) rfl) (pv 1) pe_int (fun _ _ => rfl)) (nomark _))))) (pss_one (ps_ret pe_bl)) pss_nil)
      (pss_one (ps_ret (pe_or (pe_cmpR op_ne (pe_ix (ix_tupK (K := K) rfl) (pv 0) pe_int (fun _ _ => rfl)) pe_str (nomark _)) (pe_one (pe_cmpR op_ne (pe_ix (ix_tupK (K := K) rfl) (pv 1) pe_int (fun _ _ => rfl)) pe_str (nomark _))))))), mt_read (K := K) ha hb k rfl⟩

/-! ### records -/
abbrev Nt := Int × Int × Int × Int
def nD (x : Nt) : PyData := .tuple [.int x.1, .int x.2.1, .int x.2.2.1, .int x.2.2.2]
def nV (x : Nt) : List V := [.int x.1, .int x.2.1, .int x.2.2.1, .int x.2.2.2]
theorem imm_nD (x : Nt) : imm (nD x) = true := rfl
theorem dat_nt {H : Hp} {t : Addr} {x : Nt} (h : H t = some (.tup (nV x))) : Dat H (.ref t) (nD x) := by
  simp only [nD, Dat]
  exact ⟨t, _, rfl, h, by simp only [nV, Dats, Dat, and_self]⟩
theorem dat_nt_inv {H : Hp} {v : V} {x : Nt} (h : Dat H v (nD x)) : ∃ t, v = .ref t ∧ H t = some (.tup (nV x)) := by
  simp only [nD, Dat] at h
  obtain ⟨t, vs, e, q, d⟩ := h
  match vs, d with
  | [a, b, c, z], d =>
    simp only [Dats, Dat, and_true] at d
    obtain ⟨rfl, rfl, rfl, rfl⟩ := d
    exact ⟨t, e, q⟩
  | [], d => simp only [Dats] at d
  | [_], d => simp only [Dats, and_false] at d
  | [_, _], d => simp only [Dats, and_false] at d
  | [_, _, _], d => simp only [Dats, and_false] at d
  | _ :: _ :: _ :: _ :: _ :: _, d => simp only [Dats, and_false] at d
def NtsAt (H : Hp) (a : Addr) (ns : List Nt) : Prop := ∃ vs, H a = some (.lst vs) ∧ Dats H vs (ns.map nD)
theorem NtsAt.same {H H' : Hp} {a : Addr} {ns : List Nt} (h : NtsAt H a ns) (k : Same H H') : NtsAt H' a ns := by
  obtain ⟨vs, e, d⟩ := h
  exact ⟨vs, k _ _ e, Dats.keep k.tups _ (imms_map _ imm_nD ns) d⟩
theorem nts_get {H : Hp} {vs : List V} {ns : List Nt} {i : Nat} {v : V} (d : Dats H vs (ns.map nD)) (e : vs[i]? = some v) : ∃ x t, ns[i]? = some x ∧ v = .ref t ∧ H t = some (.tup (nV x)) := by
  obtain ⟨q, eq, dq⟩ := d.get e
  rw [List.getElem?_map] at eq
  cases ex : ns[i]? with
  | none => rw [ex] at eq; cases eq
  | some x =>
    rw [ex] at eq
    cases eq
    obtain ⟨t, rfl, ht⟩ := dat_nt_inv dq
    exact ⟨x, t, rfl, rfl, ht⟩
def gI (cs : List Int) (h : Int) : Int := (cs[h.toNat]?).getD 0
theorem atI_gI {cs : List Int} {h : Int} (h0 : 0 ≤ h) (h1 : h < cs.length) : atI (cs.map V.int) h = some (.int (gI cs h)) := by
  obtain ⟨m, rfl⟩ := Int.eq_ofNat_of_zero_le h0
  have : m < cs.length := by (clear h0; omega)
  refine atI_nat ?_
  simp [gI, this]
theorem gI_nat {cs : List Int} {i : Nat} {c : Int} (h : cs[i]? = some c) : gI cs i = c := by simp [gI, h]
theorem ixN_nat {n : Nat} {i : Int} (h0 : 0 ≤ i) (h1 : i < n) : ixN n i = some i.toNat := by unfold ixN; rw [if_pos h0, if_pos h1]
theorem gI_set {cs : List Int} {h k v : Int} (h0 : 0 ≤ h) (h1 : h < cs.length) (k0 : 0 ≤ k) : gI (cs.set h.toNat v) k = if k = h then v else gI cs k := by
  unfold gI
  rw [List.getElem?_set]
  by_cases e : k = h
  · subst e
    have : k.toNat < cs.length := by (clear h0; omega)
    simp [this]
  · have : ¬ h.toNat = k.toNat := by (clear h1; omega)
    simp [e, this]
theorem cut4a (a b c d : V) : cutV [a, b, c, d] none (some 2) = [a, b] := cut_take _ 2
theorem cut4b (a b c d : V) : cutV [a, b, c, d] (some 2) none = [c, d] := cut_drop _ 2
theorem part4a {α : Type} (xs : List α) (h : xs.length = 4) : ¬ (HT.sIx xs.length 0 none = 0 ∧ HT.sIx xs.length xs.length (some 2) = xs.length) := by
  rw [h]; decide
theorem part4b {α : Type} (xs : List α) (h : xs.length = 4) : ¬ (HT.sIx xs.length 0 (some 2) = 0 ∧ HT.sIx xs.length xs.length none = xs.length) := by
  rw [h]; decide

/-! ### pairs -/
abbrev Prs := Int × Int
def pD (x : Prs) : PyData := .tuple [.int x.1, .int x.2]
theorem imm_pD (x : Prs) : imm (pD x) = true := rfl
theorem dat_prs {H : Hp} {t : Addr} {x : Prs} (h : H t = some (.tup [.int x.1, .int x.2])) : Dat H (.ref t) (pD x) := by
  simp only [pD, Dat]
  exact ⟨t, _, rfl, h, by simp only [Dats, Dat, and_self]⟩
theorem dat_prs_inv {H : Hp} {v : V} {x : Prs} (h : Dat H v (pD x)) : ∃ t, v = .ref t ∧ H t = some (.tup [.int x.1, .int x.2]) := by
  simp only [pD, Dat] at h
  obtain ⟨t, vs, e, q, d⟩ := h
  match vs, d with
  | [a, b], d =>
    simp only [Dats, Dat, and_true] at d
    obtain ⟨rfl, rfl⟩ := d
    exact ⟨t, e, q⟩
  | [], d => simp only [Dats] at d
  | [_], d => simp only [Dats, and_false] at d
  | _ :: _ :: _ :: _, d => simp only [Dats, and_false] at d
def PrsAt (H : Hp) (a : Addr) (ps : List Prs) : Prop := ∃ vs, H a = some (.lst vs) ∧ Dats H vs (ps.map pD)
theorem PrsAt.same {H H' : Hp} {a : Addr} {ws : List Prs} (h : PrsAt H a ws) (k : Same H H') : PrsAt H' a ws := by
  obtain ⟨vs, e, d⟩ := h
  exact ⟨vs, k _ _ e, Dats.keep k.tups _ (imms_map _ imm_pD ws) d⟩
theorem PrsAt.kp {H H' : Hp} {a r : Addr} {ws : List Prs} {ys : List V} (h : PrsAt H a ws) (hr : H r = some (.lst ys)) (k : Kp r H H') (n : a ≠ r) : PrsAt H' a ws := by
  obtain ⟨vs, e, d⟩ := h
  exact ⟨vs, k _ _ e n, Dats.keep (k.tups hr) _ (imms_map _ imm_pD ws) d⟩
theorem eqv_pD (x y : Prs) : PyData.eqv (pD x) (pD y) = decide (x = y) := by
  obtain ⟨a, b⟩ := x
  obtain ⟨c, d⟩ := y
  simp only [pD, PyData.eqv, PyData.eqvAll, Bool.and_true]
  by_cases e1 : a = c
  · subst e1
    by_cases e2 : b = d
    · subst e2; simp
    · simp [e2]
  · simp [e1]
theorem prs_get {H : Hp} {vs : List V} {ps : List Prs} {i : Nat} {v : V} (d : Dats H vs (ps.map pD)) (e : vs[i]? = some v) : ∃ x t, ps[i]? = some x ∧ v = .ref t ∧ H t = some (.tup [.int x.1, .int x.2]) := by
  obtain ⟨q, eq, dq⟩ := d.get e
  rw [List.getElem?_map] at eq
  cases ex : ps[i]? with
  | none => rw [ex] at eq; cases eq
  | some x =>
    rw [ex] at eq
    cases eq
    obtain ⟨t, rfl, ht⟩ := dat_prs_inv dq
    exact ⟨x, t, rfl, rfl, ht⟩

/-! ### names of touches -/
/-- how many touches of the hand -/
def cnt (ws : List Tch) (h : Int) : Int := ((ws.filter fun x => decide (x.1 = h)).length : Int)
theorem cnt_snoc (ws : List Tch) (x : Tch) (h : Int) : cnt (ws ++ [x]) h = if h = x.1 then cnt ws h + 1 else cnt ws h := by
  unfold cnt
  rw [List.filter_append, List.length_append]
  by_cases e : h = x.1
  · subst e; simp
  · rw [if_neg e]
    have : ¬ x.1 = h := fun z => e z.symm
    simp [this]
def hnd (ws : List Tch) (i : Nat) : Int := match ws[i]? with | some x => x.1 | none => 0
theorem hnd_of {ws : List Tch} {i : Nat} {x : Tch} (h : ws[i]? = some x) : hnd ws i = x.1 := by unfold hnd; rw [h]
def nm (ws : List Tch) : List Prs := (List.range ws.length).map fun i => (hnd ws i, cnt (ws.take i) (hnd ws i))
theorem nm_snoc (ws : List Tch) (x : Tch) : nm (ws ++ [x]) = nm ws ++ [(x.1, cnt ws x.1)] := by
  unfold nm
  rw [List.length_append, List.length_singleton, List.range_succ, List.map_append]
  congr 1
  · refine List.map_congr_left fun i hi => ?_
    have hi' : i < ws.length := by simpa using hi
    unfold hnd
    rw [List.getElem?_append_left hi', List.take_append_of_le_length (by omega)]
  · simp [hnd]
theorem nm_length (ws : List Tch) : (nm ws).length = ws.length := by unfold nm; simp

theorem PrsAt.spr {H H' : Hp} {a r : Addr} {ws : List Prs} (h : PrsAt H a ws) (hr : SpringOk H r) (k : Kp r H H') (n : a ≠ r) : PrsAt H' a ws := by
  obtain ⟨f, t, c, e, _⟩ := hr
  exact h.kp e k n
def spNames (K : PySem.W.Frag) : Sp := fun vs H Q _ => ∃ (a : Addr) (ws : List Tch), vs = [.ref a] ∧ WebAt H a ws ∧ ws.length ≤ 1000 ∧ ∀ (r : Addr) (H' : Hp), H r = none → PrsAt H' r (nm ws) → Same H H' → Q (.ref r) H'
theorem ok_names {f : Addr} {fd : FuncData} (F : Fun K "names" "names" s_names f fd) : FnOk P w K mg base CX0 1 f fd ["web"] (spNames K) := by
  refine F.ok sc_names (fun vs H Q E h => ?_) (fun cdv A outer s H vs Q E hr h => ?_)
  · obtain ⟨a, ws, rfl, _⟩ := h
    rfl
  · obtain ⟨a, ws, rfl, W, hlen, k⟩ := h
    have hu := hu_of hr
    refine ⟨_, (pss_cons (ps_set (i := 1) sc_names.nd rfl (Or.inl rfl) pe_dnewK)
      (pss_cons (ps_set (i := 2) sc_names.nd rfl (Or.inl rfl) (pe_lst pa_nil))
      (pss_cons (ps_for PassesOwn.never rfl (pi_listK (K := K) rfl (pv 0)) (pg_name (i := 3) sc_names.nd rfl (Or.inl rfl))
      (pss_cons (ps_set (i := 4) sc_names.nd rfl (Or.inl rfl) (pe_dget2 hu (pv 1) (pe_ix (ix_tupK (K := K) rfl) (pv 3) pe_int (fun _ _ => rfl)) pe_int ⟨rfl, rfl, rfl, rfl⟩))
      (pss_cons (ps_expr (pe_appendK (K := K) rfl (pv 2) (pa_cons (pe_tup (pa_cons (pe_ix (ix_tupK (K := K) rfl) (pv 3) pe_int (fun _ _ => rfl)) (pa_cons (pv 4) pa_nil))) pa_nil)))
      (pss_one (ps_dput hu (pv 1) (pe_ix (ix_tupK (K := K) rfl) (pv 3) pe_int (fun _ _ => rfl)) (pe_op op_add (pv 4) pe_int) rfl)))))
      (pss_one (ps_ret (pv 2)))))), ?_⟩
    obtain ⟨vs, ha, dv⟩ := id W
    have vlen : vs.length = ws.length := by rw [dv.length, List.length_map]
    intro d hd
    have sm1 := same_new (o := HO.dK []) hd
    refine ⟨(by show 0 ≤ sizeLine; decide), fun p hp => ?_⟩
    have sm2 := same_new (o := HO.lst []) hp
    have ndp : d ≠ p := ne_of_none upd_same hp
    have hp0 : H p = none := sm1.free hp
    refine ⟨_, rfl, a, rfl, ⟨_, SqL.of (sm2 _ _ (sm1 _ _ ha))⟩, for_list (K := K) (a := a) (xs := vs) (fun i σ H2 => ∃ (kvs : List (Key × V)) (x1 x2 : Option V), σ = [some (.ref a), some (.ref d), some (.ref p), x1, x2] ∧ Same H H2 ∧
      H2 d = some (.dK kvs) ∧ kvs.length ≤ i ∧ (∀ h : Int, (valV kvs (Sum.inl h)).getD (.int 0) = .int (cnt (ws.take i) h)) ∧ PrsAt H2 p (nm (ws.take i)))
      ⟨[], none, none, rfl, sm1.trans sm2, sm2 _ _ upd_same, Nat.zero_le _, fun h => rfl, ⟨[], upd_same, by simp only [List.take_zero, nm, List.length_nil, List.range_zero, List.map_nil, Dats]⟩⟩ (fun i σ H2 _ ⟨_, _, _, _, sm, _⟩ => SqL.of (sm _ _ ha)) ?_ ?_⟩
    · rintro i y σ H2 hi ⟨kvs, x1, x2, rfl, sm, hd2, kl, hval, PA⟩
      have hil : i < ws.length := by have := (List.getElem?_eq_some_iff.mp hi).1; omega
      obtain ⟨x, ex⟩ : ∃ x, ws[i]? = some x := ⟨ws[i], by simp [hil]⟩
      obtain ⟨dd, ed, dy⟩ := dv.get hi
      rw [List.getElem?_map, ex] at ed
      cases ed
      obtain ⟨t, rfl, ht⟩ := dat_tch_inv dy
      have ht2 : H2 t = some (.tup [.int x.1, .str x.2.1, .int x.2.2]) := sm.tups _ _ ht
      have tk : ws.take (i + 1) = ws.take i ++ [x] := by rw [List.take_add_one, ex]; rfl
      have tlen : (ws.take i).length = i := by rw [List.length_take]; omega
      -- k = counts.get(touch[0], 0)
      refine ⟨_, rfl, d, rfl, .inl ⟨_, .inl hd2⟩, _, rfl, _, _, _, _, rfl, rfl, SqT.of ht2, rfl, _, DGet.k (k := Sum.inl x.1) hd2, ?_⟩
      rw [hval x.1]
      -- told.append((touch[0], k))
      obtain ⟨ts, hts, dts⟩ := id PA
      refine ⟨_, rfl, .inl ⟨rfl, _, SqL.of hts⟩, _, rfl, _, _, _, _, rfl, rfl, SqT.of ht2, rfl, _, rfl, (by show 2 ≤ sizeLine; decide), fun q hq => ?_⟩
      have sm3 := same_new (o := HO.tup [V.int x.1, V.int (cnt (ws.take i) x.1)]) hq
      have hts3 := sm3 _ _ hts
      have tslen : ts.length = i := by rw [dts.length, List.length_map, nm_length, tlen]
      refine ⟨p, ts, _, rfl, rfl, hts3, (by rw [tslen, sizeLine_eq]; omega), ?_⟩
      have kset : Kp p (upd H2 q (HO.tup [V.int x.1, V.int (cnt (ws.take i) x.1)])) (upd (upd H2 q (HO.tup [V.int x.1, V.int (cnt (ws.take i) x.1)])) p (HO.lst (ts ++ [V.ref q]))) := Kp.set
      have hd4 := kset _ _ (sm3 _ _ hd2) ndp
      -- counts[touch[0]] = k + 1
      refine ⟨_, rfl, _, _, rfl, rfl, _, rfl, _, rfl, _, _, _, _, rfl, rfl, SqT.of (kset.tups hts3 _ _ (sm3.tups _ _ ht2)), rfl, d, _, rfl, DPut.k (k := Sum.inl x.1) hd4 (small1000 (by omega)), ?_⟩
      refine ⟨putK kvs (Sum.inl x.1) (V.int (cnt (ws.take i) x.1 + 1)), _, _, rfl, ?_, upd_same, ?_, fun h => ?_, ?_⟩
      · intro b o e
        have nb : b ≠ p := ne_of_none e hp0
        have nb2 : b ≠ d := ne_of_none e hd
        rw [upd_ne nb2]
        exact kset b o (sm3 b o (sm b o e)) nb
      · exact Nat.le_trans (length_putK ..) (by omega)
      · rw [valV_put, tk, cnt_snoc]
        by_cases e : h = x.1
        · subst e
          rw [if_pos rfl, if_pos rfl]; rfl
        · rw [if_neg (fun z => e (Sum.inl.inj z)), if_neg e]
          exact hval h
      · rw [tk, nm_snoc]
        have kd2 : Kp d (upd (upd H2 q (HO.tup [V.int x.1, V.int (cnt (ws.take i) x.1)])) p (HO.lst (ts ++ [V.ref q]))) (upd (upd (upd H2 q (HO.tup [V.int x.1, V.int (cnt (ws.take i) x.1)])) p (HO.lst (ts ++ [V.ref q]))) d (HO.dK (putK kvs (Sum.inl x.1) (V.int (cnt (ws.take i) x.1 + 1))))) := Kp.set
        have tups2 : ∀ a xs, (upd H2 q (HO.tup [V.int x.1, V.int (cnt (ws.take i) x.1)])) a = some (HO.tup xs) → (upd (upd (upd H2 q (HO.tup [V.int x.1, V.int (cnt (ws.take i) x.1)])) p (HO.lst (ts ++ [V.ref q]))) d (HO.dK (putK kvs (Sum.inl x.1) (V.int (cnt (ws.take i) x.1 + 1))))) a = some (HO.tup xs) := fun a xs hx =>
          kd2.tups' hd4 _ _ (kset.tups hts3 _ _ hx)
        refine ⟨_, kd2 _ _ upd_same ndp.symm, ?_⟩
        rw [List.map_append]
        refine Dats.append (Dats.keep (fun a xs hx => tups2 a xs (sm3.tups _ _ hx)) _ (imms_map _ imm_pD _) dts) (dats_one (dat_prs (x := (x.1, cnt (ws.take i) x.1)) ?_))
        exact kd2 _ _ (kset _ _ upd_same (ne_of upd_same hts3 (by intro z; cases z))) (ne_of (kset _ _ upd_same (ne_of upd_same hts3 (by intro z; cases z))) hd4 (by intro z; cases z))
    · rintro σ H2 ⟨kvs, x1, x2, rfl, sm, hd2, kl, hval, PA⟩
      rw [vlen, List.take_length] at PA
      exact ⟨_, rfl, k p H2 hp0 PA sm⟩

/-! ### steps of a web -/
def stw (ws : List Tch) (i j : Nat) : Bool := match ws[i]?, ws[j]? with | some x, some y => decide (x.1 = y.1) || mt x y | _, _ => false
/-- a step from a place to a later one -/
def stb (ws : List Tch) (i j : Nat) : Bool := decide (i < j) && stw ws i j
theorem stb_lt {ws : List Tch} {i j : Nat} (h : stb ws i j = true) : i < j ∧ j < ws.length := by
  unfold stb stw at h
  simp only [Bool.and_eq_true, decide_eq_true_eq] at h
  refine ⟨h.1, ?_⟩
  by_cases l : j < ws.length
  · exact l
  · have e : ws[j]? = none := by simp; (clear h; omega)
    rw [e] at h
    cases ws[i]? <;> simp at h
theorem atI_ref {vs : List V} {i : Nat} {v : V} (h : vs[i]? = some v) : atI vs (i : Int) = some v := atI_nat h
/-! ### ways -/
inductive Rch (ws : List Tch) (j : Nat) : Nat → Prop
  | one {i : Nat} (h : stb ws i j = true) : Rch ws j i
  | more {i k : Nat} (h : stb ws i k = true) (r : Rch ws j k) : Rch ws j i
theorem Rch.lt {ws : List Tch} {i j : Nat} (r : Rch ws j i) : i < j ∧ j < ws.length := by
  induction r with
  | one h => exact stb_lt h
  | more h _ ih => exact ⟨Nat.lt_trans (stb_lt h).1 ih.1, ih.2⟩

/-! ### the law's calls, steps and table -/
def spCalls (K : PySem.W.Frag) : Sp := fun vs H Q _ => ∃ (a : Addr) (ws : List Tch), vs = [.ref a] ∧ WebAt H a ws ∧ (∀ x ∈ ws, TchOk x) ∧ ws.length ≤ 300 ∧ ∀ (r : Addr) (H' : Hp), H r = none → PrsAt H' r (nm ws) → Same H H' → Q (.ref r) H'
theorem rep8 : (List.replicate ((8 : Int)).toNat [V.int 0]).flatten = (List.replicate 8 (0 : Int)).map V.int := rfl
theorem ok_calls {f : Addr} {fd : FuncData} (F : Fun K "_law_calls" "_law_calls" s_Lcalls f fd) (Bt : Blt mg) : FnOk P w K mg base CX0 1 f fd ["web"] (spCalls K) := by
  refine F.ok sc_Lcalls (fun vs H Q E h => ?_) (fun cdv A outer s H vs Q E hr h => ?_)
  · obtain ⟨a, ws, rfl, _⟩ := h
    rfl
  · obtain ⟨a, ws, rfl, W, ok, wl, k⟩ := h
    obtain ⟨vs, ha, dv⟩ := id W
    have vlen : vs.length = ws.length := by rw [dv.length, List.length_map]
    refine ⟨_, (pss_cons (ps_set (i := 1) sc_Lcalls.nd rfl (Or.inl rfl) (pe_op op_rep (pe_lst (pa_cons pe_int pa_nil)) pe_int))
      (pss_cons (ps_set (i := 2) sc_Lcalls.nd rfl (Or.inl rfl) (pe_lst pa_nil))
      (pss_cons (ps_for PassesOwn.never rfl (pi_listK (K := K) rfl (pv 0)) (pg_tupK (K := K) (n := 3) rfl rfl (pgs_cons (pg_name (i := 3) sc_Lcalls.nd rfl (Or.inl rfl)) (pgs_cons (pg_name (i := 4) sc_Lcalls.nd rfl (Or.inl rfl)) (pgs_cons (pg_name (i := 5) sc_Lcalls.nd rfl (Or.inl rfl)) pgs_nil))))
      (pss_cons (ps_expr (pe_appendK (K := K) rfl (pv 2) (pa_cons (pe_tup (pa_cons (pv 3) (pa_cons (pe_ix (ix_listK (K := K) rfl) (pv 1) (pv 3) (fun _ _ => rfl)) pa_nil))) pa_nil)))
      (pss_one (ps_asg (pe_op op_add (pe_ix (ix_listK (K := K) rfl) (pv 1) (pv 3) (fun _ _ => rfl)) pe_int) (pg_sub (pv 1) (pv 3) set_list)))))
      (pss_one (ps_ret (pv 2)))))), ?_⟩
    refine ⟨(by show 1 ≤ sizeLine; decide), fun l hl => ?_⟩
    have s1 := same_new (o := HO.lst [V.int 0]) hl
    refine ⟨l, _, _, rfl, rfl, upd_same, by decide, by decide, by rw [sizeLine_eq]; simp, fun m hm => ?_⟩
    rw [rep8]
    have s2 := same_new (o := HO.lst ((List.replicate 8 (0 : Int)).map V.int)) hm
    have s12 := s1.trans s2
    have hm0 : H m = none := s1.free hm
    refine ⟨(by show 0 ≤ sizeLine; decide), fun r hr' => ?_⟩
    have s3 := same_new (o := HO.lst []) hr'
    have s13 := s12.trans s3
    have hr0 : H r = none := s12.free hr'
    have nmr : m ≠ r := ne_of_none upd_same hr'
    refine ⟨_, rfl, a, rfl, ⟨_, SqL.of (s13 _ _ ha)⟩, ?_⟩
    refine for_list (K := K) (a := a) (xs := vs) (fun i σ H2 => ∃ (ms : List Int) (x1 x2 x3 : Option V), σ = [some (.ref a), some (.ref m), some (.ref r), x1, x2, x3] ∧ Same H H2 ∧ H2 m = some (.lst (ms.map V.int)) ∧ ms.length = 8 ∧ (∀ h : Int, 0 ≤ h → h < 8 → gI ms h = cnt (ws.take i) h) ∧ PrsAt H2 r (nm (ws.take i)))
      ⟨List.replicate 8 0, none, none, none, rfl, s13, s3 _ _ upd_same, by simp, fun h h0 h1 => ?_, ⟨[], upd_same, by simp only [List.take_zero, nm, List.length_nil, List.range_zero, List.map_nil, Dats]⟩⟩ (fun i σ H2 _ ⟨_, _, _, _, _, sm, _⟩ => SqL.of (sm _ _ ha)) ?_ ?_
    · have : gI (List.replicate 8 0) h = 0 := by unfold gI; rw [List.getElem?_replicate]; split <;> rfl
      rw [this]; rfl
    · rintro i y σ H2 hi ⟨ms, x1, x2, x3, rfl, sm, hm2, ml, hg, PA⟩
      have hil : i < ws.length := by have := (List.getElem?_eq_some_iff.mp hi).1; omega
      obtain ⟨x, ex⟩ : ∃ x, ws[i]? = some x := ⟨ws[i], by simp [hil]⟩
      obtain ⟨dd, ed, dy⟩ := dv.get hi
      rw [List.getElem?_map, ex] at ed
      cases ed
      obtain ⟨t, rfl, ht⟩ := dat_tch_inv dy
      obtain ⟨⟨x0, x1'⟩, _⟩ := ok x (List.mem_of_getElem? ex)
      have tk : ws.take (i + 1) = ws.take i ++ [x] := by rw [List.take_add_one, ex]; rfl
      have tlen : (ws.take i).length = i := by rw [List.length_take]; omega
      have gx := hg x.1 x0 x1'
      refine ⟨t, _, rfl, SqT.of (sm _ _ ht), rfl, _, _, rfl, _, _, rfl, _, _, rfl, rfl, ?_⟩
      obtain ⟨ts, hts, dts⟩ := id PA
      have tsl : ts.length = i := by rw [dts.length, List.length_map, nm_length, tlen]
      refine ⟨_, rfl, .inl ⟨rfl, _, SqL.of hts⟩, _, rfl, _, rfl, _, rfl, _, _, _, _, rfl, rfl, SqL.of hm2, atI_gI x0 (by omega), (by show 2 ≤ sizeLine; decide), fun q hq => ?_⟩
      have s4 := same_new (o := HO.tup [V.int x.1, V.int (gI ms x.1)]) hq
      refine ⟨r, ts, _, rfl, rfl, s4 _ _ hts, by rw [sizeLine_eq]; omega, ?_⟩
      have k5 : Kp r (upd H2 q (.tup [V.int x.1, V.int (gI ms x.1)])) (upd (upd H2 q (.tup [V.int x.1, V.int (gI ms x.1)])) r (.lst (ts ++ [V.ref q]))) := Kp.set
      have t5 := k5.tups (s4 _ _ hts)
      have hm5 := k5 _ _ (s4 _ _ hm2) nmr
      refine ⟨_, rfl, _, rfl, _, _, _, _, rfl, rfl, SqL.of hm5, atI_gI x0 (by omega), _, _, rfl, rfl, _, rfl, _, rfl, _, _, _, _, rfl, rfl, hm5, ixN_nat x0 (by rw [List.length_map]; omega), ?_⟩
      have k6 : Kp m (upd (upd H2 q (.tup [V.int x.1, V.int (gI ms x.1)])) r (.lst (ts ++ [V.ref q]))) (upd (upd (upd H2 q (.tup [V.int x.1, V.int (gI ms x.1)])) r (.lst (ts ++ [V.ref q]))) m (.lst ((ms.map V.int).set x.1.toNat (V.int (gI ms x.1 + 1))))) := Kp.set
      have t6 := k6.tups hm5
      refine ⟨ms.set x.1.toNat (gI ms x.1 + 1), _, _, _, rfl, fun b u e => k6 _ _ (k5 _ _ (s4 _ _ (sm _ _ e)) (ne_of_none e hr0)) (ne_of_none e hm0), by rw [upd_same, List.map_set], by simp [ml], fun h h0 h1 => ?_, ?_⟩
      · rw [gI_set x0 (by omega) h0, tk, cnt_snoc]
        by_cases e : h = x.1
        · subst e; rw [if_pos rfl, if_pos rfl, gx]
        · rw [if_neg e, if_neg e]; exact hg h h0 h1
      · rw [tk, nm_snoc]
        refine ⟨ts ++ [V.ref q], k6 _ _ upd_same nmr.symm, ?_⟩
        rw [List.map_append]
        refine Dats.append (Dats.keep (fun a xs h => t6 _ _ (t5 _ _ (s4.tups _ _ h))) _ (imms_map _ imm_pD _) dts) (dats_one (dat_prs (x := (x.1, cnt (ws.take i) x.1)) ?_))
        have := t6 _ _ (t5 _ _ (upd_same (H := H2) (a := q) (o := HO.tup [V.int x.1, V.int (gI ms x.1)])))
        rw [gx] at this
        rw [gx]
        exact this
    · rintro σ H2 ⟨ms, x1, x2, x3, rfl, sm, hm2, ml, hg, PA⟩
      rw [vlen, List.take_length] at PA
      exact ⟨_, rfl, k r H2 hr0 PA sm⟩
def spLstep (K : PySem.W.Frag) : Sp := fun vs H Q _ => ∃ (a b : Addr) (x y : Tch), vs = [.ref a, .ref b] ∧ H a = some (.tup [.int x.1, .str x.2.1, .int x.2.2]) ∧ H b = some (.tup [.int y.1, .str y.2.1, .int y.2.2]) ∧ Q (.bl (decide (x.1 = y.1) || mt x y)) H
theorem ok_Lstep {f : Addr} {fd : FuncData} (F : Fun K "_law_step" "_law_step" s_Lstep f fd) (F_Lmeets : FnAt P w K mg base 1 "_law_meets" ["one", "other"] (spMt K)) : FnOk P w K mg base CX0 2 f fd ["one", "other"] (spLstep K) := by
  refine F.ok sc_Lstep (fun vs H Q E h => ?_) (fun cdv A outer s H vs Q E hr h => ?_)
  · obtain ⟨a, b, x, y, rfl, _⟩ := h
    rfl
  · obtain ⟨a, b, x, y, rfl, ha, hb, k⟩ := h
    refine ⟨_, (pss_one (ps_ret (pe_or (pe_cmpR op_eq (pe_ix (ix_tupK (K := K) rfl) (pv 0) pe_int (fun _ _ => rfl)) (pe_ix (ix_tupK (K := K) rfl) (pv 1) pe_int (fun _ _ => rfl)) (nomark _)) (pe_one (pe_fn F_Lmeets (hr.mono (by decide)) (by rfl) (pa_cons (pv 0) (pa_cons (pv 1) pa_nil))))))), ?_⟩
    refine ⟨_, rfl, _, _, _, _, rfl, rfl, SqT.of ha, rfl, _, rfl, _, _, _, _, rfl, rfl, SqT.of hb, rfl, rfl, _, rfl, ?_⟩
    by_cases q : x.1 = y.1
    · rw [show decide (V.int x.1 = V.int y.1) = true by simp [q]]
      rw [decide_eq_true q, Bool.true_or] at k
      exact iteT k
    · rw [show decide (V.int x.1 = V.int y.1) = false by simp [q]]
      rw [decide_eq_false q, Bool.false_or] at k
      exact iteF ⟨_, rfl, _, rfl, a, b, x, y, rfl, ha, hb, k⟩

/-! ### the table -/
theorem rch_last {ws : List Tch} {j m : Nat} (r : Rch ws j m) : ∃ i, stb ws i j = true ∧ (m = i ∨ Rch ws i m) := by
  induction r with
  | one h => exact ⟨_, h, .inl rfl⟩
  | more h _ ih =>
    obtain ⟨i, st, q⟩ := ih
    refine ⟨i, st, .inr ?_⟩
    rcases q with rfl | q
    · exact .one h
    · exact .more h q
theorem rch_snoc {ws : List Tch} {i j m : Nat} (st : stb ws i j = true) (r : Rch ws i m) : Rch ws j m := by
  induction r with
  | one h => exact .more h (.one st)
  | more h _ ih => exact .more h ih
theorem cnt_mono (ws : List Tch) (h : Int) (i : Nat) : ∀ d : Nat, cnt (ws.take i) h ≤ cnt (ws.take (i + d)) h
  | 0 => Int.le_refl _
  | d + 1 => by
    have ih := cnt_mono ws h i d
    have e : ws.take (i + (d + 1)) = ws.take (i + d) ++ (ws[i + d]?).toList := by rw [← Nat.add_assoc, List.take_add_one]
    rw [e]
    cases ws[i + d]? with
    | none => simpa using ih
    | some x =>
      show _ ≤ cnt (ws.take (i + d) ++ [x]) h
      rw [cnt_snoc]
      split <;> omega
theorem cnt_nn (ws : List Tch) (h : Int) : 0 ≤ cnt ws h := by unfold cnt; omega
def RowP (ws : List Tch) (rw' : List Int) (R : Nat → Prop) : Prop := rw'.length = 8 ∧ ∀ m x, ws[m]? = some x → (cnt (ws.take m) x.1 < gI rw' x.1 ↔ R m)
def RowOk (ws : List Tch) (j : Nat) (rw' : List Int) : Prop := RowP ws rw' fun m => m = j ∨ Rch ws j m
def Bef (ws : List Tch) (j n m : Nat) : Prop := ∃ i, i < n ∧ stb ws i j = true ∧ (m = i ∨ Rch ws i m)
theorem gI_zeros (h : Int) : gI (List.replicate 8 0) h = 0 := by unfold gI; rw [List.getElem?_replicate]; split <;> rfl
theorem rowp_zero (ws : List Tch) (j : Nat) : RowP ws (List.replicate 8 0) (Bef ws j 0) := by
  refine ⟨by simp, fun m x ex => ⟨fun h => ?_, fun ⟨i, l, _⟩ => absurd l (Nat.not_lt_zero _)⟩⟩
  rw [gI_zeros] at h
  have := cnt_nn (ws.take m) x.1
  omega
def mxr (a b : List Int) : List Int := (List.range 8).map fun h : Nat => if gI b (h : Int) > gI a (h : Int) then gI b (h : Int) else gI a (h : Int)
theorem gI_mxr {a b : List Int} {h : Int} (h0 : 0 ≤ h) (h1 : h < 8) : gI (mxr a b) h = if gI b h > gI a h then gI b h else gI a h := by
  obtain ⟨m, rfl⟩ := Int.eq_ofNat_of_zero_le h0
  have hm : m < 8 := by omega
  refine gI_nat ?_
  unfold mxr
  rw [List.getElem?_map, List.getElem?_range hm]
  rfl
theorem rowp_max {ws : List Tch} {j n : Nat} {a b : List Int} (ok : ∀ x ∈ ws, TchOk x) (p : RowP ws a (Bef ws j n)) (q : RowOk ws n b) (st : stb ws n j = true) : RowP ws (mxr a b) (Bef ws j (n + 1)) := by
  refine ⟨by unfold mxr; simp, fun m x ex => ?_⟩
  obtain ⟨⟨x0, x1⟩, _⟩ := ok x (List.mem_of_getElem? ex)
  rw [gI_mxr x0 (by omega)]
  have pa := p.2 m x ex
  have pb := q.2 m x ex
  have e : cnt (ws.take m) x.1 < (if gI b x.1 > gI a x.1 then gI b x.1 else gI a x.1) ↔ (cnt (ws.take m) x.1 < gI a x.1 ∨ cnt (ws.take m) x.1 < gI b x.1) := by
    split <;> omega
  rw [e, pa, pb]
  constructor
  · rintro (⟨i, l, s, z⟩ | z)
    · exact ⟨i, by omega, s, z⟩
    · exact ⟨n, by omega, st, z⟩
  · rintro ⟨i, l, s, z⟩
    by_cases en : i = n
    · subst en; exact .inr z
    · exact .inl ⟨i, by omega, s, z⟩
theorem rowp_skip {ws : List Tch} {j n : Nat} {a : List Int} (p : RowP ws a (Bef ws j n)) (st : stb ws n j = false) : RowP ws a (Bef ws j (n + 1)) := by
  refine ⟨p.1, fun m x ex => (p.2 m x ex).trans ⟨fun ⟨i, l, s, z⟩ => ⟨i, by omega, s, z⟩, fun ⟨i, l, s, z⟩ => ?_⟩⟩
  by_cases en : i = n
  · subst en; rw [st] at s; cases s
  · exact ⟨i, by omega, s, z⟩
theorem rowp_end {ws : List Tch} {j : Nat} {a : List Int} {y : Tch} (ok : ∀ x ∈ ws, TchOk x) (p : RowP ws a (Bef ws j j)) (ey : ws[j]? = some y) : RowOk ws j (a.set y.1.toNat (cnt (ws.take j) y.1 + 1)) := by
  obtain ⟨⟨y0, y1⟩, _⟩ := ok y (List.mem_of_getElem? ey)
  have al := p.1
  refine ⟨by simp [al], fun m x ex => ?_⟩
  obtain ⟨⟨x0, x1⟩, _⟩ := ok x (List.mem_of_getElem? ex)
  rw [gI_set y0 (by omega) x0]
  by_cases e : x.1 = y.1
  · rw [if_pos e, e]
    by_cases l : m ≤ j
    · have := cnt_mono ws y.1 m (j - m)
      rw [show m + (j - m) = j by omega] at this
      refine ⟨fun _ => ?_, fun _ => by omega⟩
      by_cases em : m = j
      · exact .inl em
      · refine .inr (.one ?_)
        unfold stb stw
        rw [ex, ey, decide_eq_true (show m < j by omega)]
        simp [e]
    · have := cnt_mono ws y.1 (j + 1) (m - (j + 1))
      rw [show j + 1 + (m - (j + 1)) = m by omega] at this
      have t : ws.take (j + 1) = ws.take j ++ [y] := by rw [List.take_add_one, ey]; rfl
      rw [t, cnt_snoc, if_pos rfl] at this
      refine ⟨fun h => by omega, fun h => ?_⟩
      rcases h with h | h
      · omega
      · have := h.lt; omega
  · rw [if_neg e, p.2 m x ex]
    constructor
    · rintro ⟨i, l, s, z | z⟩
      · subst z; exact .inr (.one s)
      · exact .inr (rch_snoc s z)
    · rintro (z | z)
      · subst z
        rw [ex] at ey
        cases ey
        exact absurd rfl e
      · obtain ⟨i, s, q⟩ := rch_last z
        exact ⟨i, (stb_lt s).1, s, q⟩
/-- a table of n rows, all of it new since H0 -/
def TblAt (ws : List Tch) (H0 H : Hp) (t : Addr) (n : Nat) : Prop := ∃ rs : List Addr, H0 t = none ∧ H t = some (.lst (rs.map V.ref)) ∧ rs.length = n ∧ ∀ j r, rs[j]? = some r → r ≠ t ∧ H0 r = none ∧ ∃ a, H r = some (.lst (a.map V.int)) ∧ RowOk ws j a
theorem TblAt.same {ws : List Tch} {H0 H H' : Hp} {t : Addr} {n : Nat} (h : TblAt ws H0 H t n) (k : Same H H') : TblAt ws H0 H' t n := by
  obtain ⟨rs, e0, e1, l, q⟩ := h
  refine ⟨rs, e0, k _ _ e1, l, fun j r hj => ?_⟩
  obtain ⟨n1, n2, a, ha, ra⟩ := q j r hj
  exact ⟨n1, n2, a, k _ _ ha, ra⟩
theorem atI0 {vs : List V} {i : Nat} {v : V} (h : vs[i]? = some v) : atI vs (0 + (i : Int)) = some v := by rw [Int.zero_add]; exact atI_nat h
theorem nm_get {ws : List Tch} {i : Nat} {x : Tch} (e : ws[i]? = some x) : (nm ws)[i]? = some (x.1, cnt (ws.take i) x.1) := by
  have : i < ws.length := (List.getElem?_eq_some_iff.mp e).1
  unfold nm
  rw [List.getElem?_map, List.getElem?_range this]
  simp only [Option.map_some, hnd_of e]
theorem prs_at {H : Hp} {a : Addr} {ps : List Prs} {i : Nat} {x : Prs} (h : PrsAt H a ps) (e : ps[i]? = some x) : ∃ vs t, H a = some (.lst vs) ∧ vs[i]? = some (.ref t) ∧ H t = some (.tup [.int x.1, .int x.2]) := by
  obtain ⟨vs, ha, d⟩ := h
  obtain ⟨v, ev, dv⟩ := d.getD (i := i) (d := pD x) (by rw [List.getElem?_map, e]; rfl)
  obtain ⟨t, rfl, ht⟩ := dat_prs_inv dv
  exact ⟨vs, t, ha, ev, ht⟩
def spTable (K : PySem.W.Frag) : Sp := fun vs H Q _ => ∃ (a c : Addr) (ws : List Tch), vs = [.ref a, .ref c] ∧ WebAt H a ws ∧ PrsAt H c (nm ws) ∧ (∀ x ∈ ws, TchOk x) ∧ ws.length ≤ 300 ∧ ∀ (t : Addr) (H' : Hp), TblAt ws H H' t ws.length → Same H H' → Q (.ref t) H'
theorem ok_table {f : Addr} {fd : FuncData} (F : Fun K "_law_table" "_law_table" s_Ltable f fd) (F_Lstep : FnAt P w K mg base 2 "_law_step" ["one", "other"] (spLstep K)) (Bt : Blt mg) : FnOk P w K mg base CX0 3 f fd ["web", "calls"] (spTable K) := by
  refine F.ok sc_Ltable (fun vs H Q E h => ?_) (fun cdv A outer s H vs Q E hr h => ?_)
  · obtain ⟨a, c, ws, rfl, _⟩ := h
    rfl
  · obtain ⟨a, c, ws, rfl, W, C, ok, wl, k⟩ := h
    obtain ⟨vs, ha, dv⟩ := id W
    have vlen : vs.length = ws.length := by rw [dv.length, List.length_map]
    refine ⟨_, (pss_cons (ps_set (i := 2) sc_Ltable.nd rfl (Or.inr rfl) (pe_lst pa_nil))
      (pss_cons (ps_for PassesOwn.never rfl (pi_range1 (by rfl) Bt.b_range (pa_cons (pe_callB (call_len_seqK (K := K) rfl) (by rfl) Bt.b_len bt_len (pa_cons (pv 0) pa_nil)) pa_nil)) (pg_name (i := 3) sc_Ltable.nd rfl (Or.inl rfl))
      (pss_cons (ps_set (i := 4) sc_Ltable.nd rfl (Or.inr rfl) (pe_op op_rep (pe_lst (pa_cons pe_int pa_nil)) pe_int))
      (pss_cons (ps_for PassesOwn.never rfl (pi_range1 (by rfl) Bt.b_range (pa_cons (pv 3) pa_nil)) (pg_name (i := 5) sc_Ltable.nd rfl (Or.inr rfl))
      (pss_one (ps_if (pt_val (pe_fn F_Lstep (hr.mono (by decide)) (by rfl) (pa_cons (pe_ix (ix_listK (K := K) rfl) (pv 0) (pv 5) (fun _ _ => rfl)) (pa_cons (pe_ix (ix_listK (K := K) rfl) (pv 0) (pv 3) (fun _ _ => rfl)) pa_nil)))) (pss_one (ps_set (i := 4) sc_Ltable.nd rfl (Or.inr rfl) (pe_comp rfl (N := ["hand", "row", "table", "i"]) (own := ["hand"]) (caps := [4, 2, 5]) (CompScope.of (by kernel_rfl)) (pi_range1 (by rfl) Bt.b_range (pa_cons pe_int pa_nil)) (fun _ _ _ _ => (pg_name (i := 0) (show List.Nodup (["hand", "row", "table", "i"] : List Str) by decide +kernel) rfl (Or.inl rfl))) (fun _ _ _ _ => pts_nil) (fun _ _ _ _ => (pe_callB (call_max2 rfl) (by rfl) Bt.b_max bt_max (pa_cons (pe_ix (ix_listK (K := K) rfl) (pv 1) (pv 0) (fun _ _ => rfl)) (pa_cons (pe_ix (ix_listK (K := K) rfl) (pe_ix (ix_listK (K := K) rfl) (pv 2) (pv 3) (fun _ _ => rfl)) (pv 0) (fun _ _ => rfl)) pa_nil))))))) pss_nil)))
      (pss_cons (ps_asg (pe_op op_add (pe_ix (ix_tupK (K := K) rfl) (pe_ix (ix_listK (K := K) rfl) (pv 1) (pv 3) (fun _ _ => rfl)) pe_int (fun _ _ => rfl)) pe_int) (pg_sub (pv 4) (pe_ix (ix_tupK (K := K) rfl) (pe_ix (ix_listK (K := K) rfl) (pv 1) (pv 3) (fun _ _ => rfl)) pe_int (fun _ _ => rfl)) set_list))
      (pss_one (ps_expr (pe_appendK (K := K) rfl (pv 2) (pa_cons (pv 4) pa_nil))))))))
      (pss_one (ps_ret (pv 2))))), ?_⟩
    refine ⟨(by show 0 ≤ sizeLine; decide), fun t ht => ?_⟩
    have s1 := same_new (o := HO.lst []) ht
    refine ⟨_, rfl, a, _, rfl, .inl (SqL.of (s1 _ _ ha)), _, rfl, by omega, by omega, ?_⟩
    rw [show ((vs.length : Nat) : Int).toNat = ws.length by omega]
    refine for_range (lo := 0) (n := ws.length) (fun j σ H2 => ∃ (x1 x2 x3 : Option V), σ = [some (.ref a), some (.ref c), some (.ref t), x1, x2, x3] ∧ Same H H2 ∧ TblAt ws H H2 t j)
      ⟨none, none, none, rfl, s1, [], ht, upd_same, rfl, fun j r hj => by simp at hj⟩ ?_ ?_
    · rintro j σ H2 hj ⟨x1, x2, x3, rfl, sm, T⟩
      obtain ⟨y, ey⟩ : ∃ y, ws[j]? = some y := ⟨ws[j], by simp [hj]⟩
      obtain ⟨⟨y0, y1⟩, _⟩ := ok y (List.mem_of_getElem? ey)
      have W2 := W.same sm
      have C2 := C.same sm
      refine ⟨(by show 1 ≤ sizeLine; decide), fun l hl => ?_⟩
      have s2 := same_new (o := HO.lst [V.int 0]) hl
      refine ⟨l, _, _, rfl, rfl, upd_same, by decide, by decide, by rw [sizeLine_eq]; simp, fun q hq => ?_⟩
      rw [rep8]
      have s3 := same_new (o := HO.lst ((List.replicate 8 (0 : Int)).map V.int)) hq
      have s23 := s2.trans s3
      have hq2 : H2 q = none := s2.free hq
      refine ⟨_, rfl, _, rfl, by omega, by omega, ?_⟩
      rw [show (0 + (j : Int)).toNat = j by omega]
      refine for_range (lo := 0) (n := j) (fun i σ H4 => ∃ (q : Addr) (rw' : List Int) (x3 : Option V), σ = [some (.ref a), some (.ref c), some (.ref t), some (.int (0 + (j : Int))), some (.ref q), x3] ∧ Same H2 H4 ∧ H2 q = none ∧ H4 q = some (.lst (rw'.map V.int)) ∧ RowP ws rw' (Bef ws j i))
        ⟨q, _, _, rfl, s23, hq2, upd_same, rowp_zero ws j⟩ ?_ ?_
      · rintro i σ H4 hi ⟨q, rw', x3, rfl, s4, hq2, hq4, rp⟩
        have hil : i < ws.length := by omega
        obtain ⟨x, ex⟩ : ∃ x, ws[i]? = some x := ⟨ws[i], by simp [hil]⟩
        have W4 := W2.same s4
        obtain ⟨vs', t1, ha4, e1, ht1⟩ := web_get W4 ex
        obtain ⟨vs'', t2, ha4', e2, ht2⟩ := web_get W4 ey
        have ev : vs' = vs'' := by rw [ha4] at ha4'; injection ha4' with z; injection z
        subst ev
        have es : stb ws i j = (decide (x.1 = y.1) || mt x y) := by unfold stb stw; rw [ex, ey, decide_eq_true hi, Bool.true_and]
        refine ⟨_, rfl, _, rfl, _, _, _, _, rfl, rfl, SqL.of ha4, atI0 e1, _, rfl, _, rfl, _, _, _, _, rfl, rfl, SqL.of ha4, atI0 e2, t1, t2, x, y, rfl, ht1, ht2, _, rfl, ?_⟩
        rw [← es]
        by_cases st : stb ws i j = true
        · rw [st]
          refine iteT ?_
          refine ⟨_, rfl, by decide, by decide, fun D hD => ?_⟩
          obtain ⟨rs, ht0, hts, rl, rq⟩ := T.same s4
          have hir : i < rs.length := by omega
          obtain ⟨r, er⟩ : ∃ r, rs[i]? = some r := ⟨rs[i], by simp [hir]⟩
          obtain ⟨_, _, ri, hri, ro⟩ := rq i r er
          have rpl := rp.1
          have rol := ro.1
          refine comp_valR (fun (h : Nat) => some (V.int (if gI ri (0 + (h : Int)) > gI rw' (0 + (h : Int)) then gI ri (0 + (h : Int)) else gI rw' (0 + (h : Int))))) hD (by decide) (fun h H5 G F hh s5 kG kF => ?_) (fun H5 s5 e5 => ?_)
          · have hh8 : h < 8 := hh
            refine ⟨_, rfl, _, rfl, _, _, _, _, rfl, rfl, SqL.of (s5 _ _ hq4), atI_gI (by omega) (by omega), _, rfl, _, rfl, _, _, _, _, rfl, rfl, SqL.of (s5 _ _ hts), atI0 (by rw [List.getElem?_map, er]; rfl), _, rfl, _, _, _, _, rfl, rfl, SqL.of (s5 _ _ hri), atI_gI (by omega) (by omega), _, _, rfl, kF _ H5 (Same.refl _) rfl⟩
          have e5' : H5 D = some (.lst ((mxr rw' ri).map V.int)) := by
            rw [e5]
            unfold mxr
            rw [List.map_map]
            congr 2
            all_goals (rw [← List.filterMap_eq_map]; refine fm_congr _ trivial fun h _ => ?_; simp)
          exact ⟨D, mxr rw' ri, _, rfl, s4.trans s5, s4.free hD, e5', rowp_max ok rp ro st⟩
        · have st' : stb ws i j = false := by simpa using st
          rw [st']
          refine iteF ?_
          exact ⟨q, rw', _, rfl, s4, hq2, hq4, rowp_skip rp st'⟩
      · rintro σ H4 ⟨q, rw', x3, rfl, s4, hq2, hq4, rp⟩
        have C4 := C2.same s4
        obtain ⟨cs, p, hc, ec, hp⟩ := prs_at C4 (nm_get ey)
        have rpl := rp.1
        refine ⟨_, rfl, _, rfl, _, _, _, _, rfl, rfl, SqL.of hc, atI0 ec, _, _, _, _, rfl, rfl, SqT.of hp, rfl, _, _, rfl, rfl, _, rfl, _, rfl, _, rfl, _, _, _, _, rfl, rfl, SqL.of hc, atI0 ec, _, _, _, _, rfl, rfl, SqT.of hp, rfl, _, _, _, _, rfl, rfl, hq4, ixN_nat y0 (by rw [List.length_map]; omega), ?_⟩
        have k5 : Kp q H4 (upd H4 q (.lst ((rw'.map V.int).set y.1.toNat (V.int (cnt (ws.take j) y.1 + 1))))) := Kp.set
        obtain ⟨rs, ht0, hts, rl, rq⟩ := T
        have ntq : t ≠ q := ne_of_none hts hq2
        have hts5 := k5 _ _ (s4 _ _ hts) ntq
        refine ⟨_, rfl, .inl ⟨rfl, _, SqL.of hts5⟩, _, rfl, t, _, _, rfl, rfl, hts5, by rw [List.length_map, sizeLine_eq]; omega, ?_⟩
        have k6 : Kp t (upd H4 q (.lst ((rw'.map V.int).set y.1.toNat (V.int (cnt (ws.take j) y.1 + 1))))) (upd (upd H4 q (.lst ((rw'.map V.int).set y.1.toNat (V.int (cnt (ws.take j) y.1 + 1))))) t (.lst (rs.map V.ref ++ [V.ref q]))) := Kp.set
        have hq0 : H q = none := sm.free hq2
        refine ⟨_, _, _, rfl, fun b u e => k6 _ _ (k5 _ _ (s4 _ _ (sm _ _ e)) (ne_of_none e hq0)) (ne_of_none e ht0), rs ++ [q], ht0, by rw [upd_same, List.map_append]; rfl, by simp [rl], fun m r hm => ?_⟩
        by_cases hml : m < rs.length
        · rw [List.getElem?_append_left hml] at hm
          obtain ⟨n1, n2, aa, haa, raa⟩ := rq m r hm
          exact ⟨n1, n2, aa, k6 _ _ (k5 _ _ (s4 _ _ haa) (ne_of_none haa hq2)) n1, raa⟩
        · have em : m = j ∧ r = q := by
            have hm2 := (List.getElem?_eq_some_iff.mp hm).1
            rw [List.length_append, List.length_singleton] at hm2
            have : m = rs.length := by omega
            subst this
            rw [List.getElem?_append_right (Nat.le_refl _)] at hm
            simp at hm
            exact ⟨rl, hm.symm⟩
          obtain ⟨rfl, rfl⟩ := em
          exact ⟨ntq.symm, hq0, _, by rw [k6 _ _ upd_same ntq.symm, List.map_set], rowp_end ok rp ey⟩
    · rintro σ H2 ⟨x1, x2, x3, rfl, sm, T⟩
      exact ⟨_, rfl, k t H2 T sm⟩

/-! ### what is known to a place -/
def mx (a b : Int) : Int := if b > a then b else a
theorem lt_mx {c a b : Int} : c < mx a b ↔ c < a ∨ c < b := by unfold mx; split <;> omega
theorem mx_nn {a b : Int} (h : 0 ≤ a) : 0 ≤ mx a b := by unfold mx; split <;> omega
def spKnown (K : PySem.W.Frag) : Sp := fun vs H Q _ => ∃ (t d : Addr) (h k : Int) (g : Int → Int), vs = [.ref t, .ref d] ∧ H t = some (.tup [.int h, .int k]) ∧ KdAt H d g ∧ Q (.bl (decide (k < g h))) H
theorem ok_known {f : Addr} {fd : FuncData} (F : Fun K "is_known" "is_known" s_is_known f fd) : FnOk P w K mg base CX0 1 f fd ["name", "known"] (spKnown K) := by
  refine F.ok sc_is_known (fun vs H Q E h => ?_) (fun cdv A outer s H vs Q E hr h => ?_)
  · obtain ⟨t, d, h, k, g, rfl, _⟩ := h
    rfl
  · obtain ⟨t, d, h, k, g, rfl, ht, kd, q⟩ := h
    have hu := hu_of hr
    refine ⟨_, (pss_one (ps_ret (pe_cmpR op_lt (pe_ix (ix_tupK (K := K) rfl) (pv 0) pe_int (fun _ _ => rfl)) (pe_dget2 hu (pv 1) (pe_ix (ix_tupK (K := K) rfl) (pv 0) pe_int (fun _ _ => rfl)) pe_int ⟨rfl, rfl, rfl, rfl⟩) (nomark _)))), ?_⟩
    obtain ⟨kvs, hd, _, val⟩ := kd.get
    refine ⟨_, rfl, _, _, _, _, rfl, rfl, SqT.of ht, rfl, _, rfl, d, rfl, .inl ⟨_, .inl hd⟩, _, rfl, _, _, _, _, rfl, rfl, SqT.of ht, rfl, _, DGet.k (k := Sum.inl h) hd, ?_⟩
    rw [val h]
    exact ⟨_, _, rfl, rfl, q⟩
def spLearn (K : PySem.W.Frag) : Sp := fun vs H Q _ => ∃ (d m : Addr) (g1 g2 : Int → Int), vs = [.ref d, .ref m] ∧ KdAt H d g1 ∧ KdAt H m g2 ∧ d ≠ m ∧ ∀ H', KdAt H' d (fun h => mx (g1 h) (g2 h)) → Kp d H H' → Q .non H'
def gUp (hs : List Int) (g1 g2 : Int → Int) : Int → Int := fun h => if h ∈ hs then mx (g1 h) (g2 h) else g1 h
theorem ok_learn {f : Addr} {fd : FuncData} (F : Fun K "learn" "learn" s_learn f fd) (Bt : Blt mg) : FnOk P w K mg base CX0 1 f fd ["known", "more"] (spLearn K) := by
  refine F.ok sc_learn (fun vs H Q E h => ?_) (fun cdv A outer s H vs Q E hr h => ?_)
  · obtain ⟨d, m, g1, g2, rfl, _⟩ := h
    rfl
  · obtain ⟨d, m, g1, g2, rfl, k1, k2, ne, q⟩ := h
    have hu := hu_of hr
    refine ⟨_, (pss_one (ps_thaw (ps_for PassesOwn.never rfl (pi_dict (pv 1)) (pg_name (i := 2) sc_learn.nd rfl (Or.inl rfl))
      (pss_one (ps_dput hu (pv 0) (pv 2) (pe_callB (call_max2 rfl) (by rfl) Bt.b_max bt_max (pa_cons (pe_dget2 hu (pv 0) (pv 2) pe_int ⟨rfl, rfl, rfl, rfl⟩) (pa_cons (pe_dget hu (pv 1) (pv 2) (fun _ _ => rfl)) pa_nil))) rfl))))), ?_⟩
    obtain ⟨hs, hm, nd, rg, zz⟩ := k2.ex
    refine ⟨_, rfl, m, _, rfl, hm, fun o => ?_⟩
    have kf : Kp m H (upd H m (.frz o (.dK (kvG hs g2)))) := Kp.set
    refine for_dict (fun i σ H2 => ∃ v : Option V, σ = [some (.ref d), some (.ref m), v] ∧ KdAt H2 d (gUp (hs.take i) g1 g2) ∧ H2 m = some (.frz o (.dK (kvG hs g2))) ∧ Kp d (upd H m (.frz o (.dK (kvG hs g2)))) H2)
      ⟨none, rfl, (k1.kp kf ne).ext (fun h => by simp [gUp]), upd_same, Kp.refl _ _⟩ (fun i σ H2 _ ⟨_, _, _, e, _⟩ => e) ?_ ?_
    · rintro i kk v σ H2 hi ⟨x, rfl, kd, fz, kp⟩
      have hi' : (kvG hs g2)[i]? = some (kk, v) := hi
      unfold kvG at hi'
      rw [List.getElem?_map] at hi'
      cases eh : hs[i]? with
      | none => rw [eh] at hi'; cases hi'
      | some h =>
        rw [eh] at hi'
        cases hi'
        have hm' : h ∈ hs := List.mem_of_getElem? eh
        obtain ⟨h0, h1⟩ := rg h hm'
        have tk : hs.take (i + 1) = hs.take i ++ [h] := by rw [List.take_add_one, eh]; rfl
        have nin : h ∉ hs.take i := by
          intro z
          have : (hs.take i ++ [h]).Nodup := by rw [← tk]; exact nd.sublist (List.take_sublist _ _)
          rw [List.nodup_append] at this
          exact this.2.2 h z h (by simp) rfl
        obtain ⟨kvs, hd2, _, val⟩ := kd.get
        have gi : gUp (hs.take i) g1 g2 h = g1 h := by unfold gUp; rw [if_neg nin]
        refine ⟨_, rfl, d, rfl, .inl ⟨_, .inl hd2⟩, _, rfl, _, DGet.k (k := Sum.inl h) hd2, ?_⟩
        rw [val h, gi]
        have gm : DGet H2 m (kV (Sum.inl h)) (some (V.int (g2 h))) := .inl ⟨_, Sum.inl h, .inr ⟨o, fz⟩, rfl, by rw [kvG_val, if_pos hm']⟩
        refine ⟨_, rfl, _, rfl, m, _, rfl, gm, _, _, rfl, ?_⟩
        obtain ⟨kvs', hd3, hz, put⟩ := kd.put (v := mx (g1 h) (g2 h)) h0 h1 (mx_nn (k1.nn h))
        refine ⟨_, rfl, _, rfl, d, _, rfl, DPut.k (k := Sum.inl h) hd3 hz, ?_⟩
        refine ⟨_, rfl, (put _ upd_same).ext fun x => ?_, by rw [upd_ne ne.symm]; exact fz, kp.trans Kp.set⟩
        unfold gSet gUp
        rw [tk]
        by_cases e : x = h
        · subst e; simp
        · simp [e]
    · rintro σ H2 ⟨x, rfl, kd, fz, kp⟩
      refine ⟨_, ⟨m, _, o, _, hm, fz, rfl⟩, ?_⟩
      have kt : Kp m H2 (upd H2 m (.dK (kvG hs g2))) := Kp.set
      refine q _ ((kd.kp kt ne).ext fun h => ?_) fun b u e nb => ?_
      · have el : hs.take (kvG hs g2).length = hs := by rw [kvG, List.length_map, List.take_length]
        rw [el]
        unfold gUp
        by_cases hh : h ∈ hs
        · rw [if_pos hh]
        · rw [if_neg hh, zz h hh]
          have := k1.nn h
          unfold mx
          rw [if_neg (by (clear hh el fz hm hu ne; omega))]
      · by_cases eb : b = m
        · subst eb
          rw [hm] at e
          rw [upd_same]; exact e
        · rw [upd_ne eb]
          exact kp _ _ (by rw [upd_ne eb]; exact e) nb

def KnP (ws : List Tch) (g : Int → Int) (R : Nat → Prop) : Prop := ∀ m x, ws[m]? = some x → (cnt (ws.take m) x.1 < g x.1 ↔ R m)
/-- covered by a step to j from lo or beyond -/
def Cov (ws : List Tch) (j lo m : Nat) : Prop := ∃ x, lo ≤ x ∧ stb ws x j = true ∧ (m = x ∨ Rch ws x m)
/-- no way from e to j but the step itself -/
def Bare (ws : List Tch) (j e : Nat) : Prop := stb ws e j = true ∧ ¬ Cov ws j (e + 1) e
noncomputable instance (ws : List Tch) (j e : Nat) : Decidable (Bare ws j e) := Classical.propDecidable _
theorem KnP.iff {ws : List Tch} {g : Int → Int} {R S : Nat → Prop} (h : KnP ws g R) (e : ∀ m, R m ↔ S m) : KnP ws g S := fun m x ex => (h m x ex).trans (e m)
theorem knp_max {ws : List Tch} {g g' : Int → Int} {R S : Nat → Prop} (h : KnP ws g R) (h' : KnP ws g' S) : KnP ws (fun x => mx (g x) (g' x)) fun m => R m ∨ S m := fun m x ex => by
  show cnt _ _ < mx _ _ ↔ _
  rw [lt_mx, h m x ex, h' m x ex]
def intsN (l : List Nat) : List V := l.map fun n : Nat => V.int (n : Int)

theorem fm_get {α β : Type} (l : List α) (f : α → Option β) : (List.range l.length).filterMap (fun i => (l[i]?).bind f) = l.filterMap f := by
  induction l with
  | nil => rfl
  | cons x l ih =>
    rw [List.length_cons, List.range_succ_eq_map, List.filterMap_cons, List.filterMap_map, List.filterMap_cons]
    have e : List.filterMap ((fun i => ((x :: l)[i]?).bind f) ∘ Nat.succ) (List.range l.length) = l.filterMap f := by rw [← ih]; rfl
    rw [e]
    rfl

/-! ### the law's notes -/
noncomputable def bUp (ws : List Tch) (j n : Nat) : List Nat := (List.range n).filter fun i => decide (Bare ws j i ∧ ¬ hnd ws i = hnd ws j)
noncomputable instance (ws : List Tch) (j e : Nat) : Decidable (Rch ws j e) := Classical.propDecidable _
def prI (i j : Nat) : Prs := ((i : Int), (j : Int))
noncomputable def lPairs (ws : List Tch) (n : Nat) : List Prs := (List.range n).flatMap fun j => (bUp ws j j).map fun i => prI i j
theorem lPairs_succ (ws : List Tch) (n : Nat) : lPairs ws (n + 1) = lPairs ws n ++ (bUp ws n n).map fun i => prI i n := by
  unfold lPairs
  rw [List.range_succ, List.flatMap_append]
  simp
theorem bUp_len (ws : List Tch) (j n : Nat) : (bUp ws j n).length ≤ n := by
  unfold bUp
  exact Nat.le_trans (List.length_filter_le _ _) (by simp)
theorem lPairs_len (ws : List Tch) : ∀ n, (lPairs ws n).length ≤ n * n
  | 0 => Nat.le_refl _
  | n + 1 => by
    rw [lPairs_succ, List.length_append, List.length_map]
    have h1 := lPairs_len ws n
    have h2 := bUp_len ws n n
    have : (n + 1) * (n + 1) = n * n + n + n + 1 := by rw [Nat.add_mul, Nat.mul_add]; omega
    omega
def firstsN (ws : List Tch) (j : Nat) : List Nat := (List.range j).filter fun i => stb ws i j
theorem firsts_fm (ws : List Tch) (j : Nat) : (List.range j).filterMap (fun i => if stb ws i j = true then some (V.int (0 + (i : Int))) else none) = intsN (firstsN ws j) := by
  unfold firstsN intsN
  simp only [Int.zero_add]
  generalize List.range j = l
  induction l with
  | nil => rfl
  | cons x l ih =>
    rw [List.filterMap_cons, List.filter_cons]
    by_cases h : stb ws x j = true
    · simp [h, ih]
    · simp [h, ih]
/-- the part of bUp from the firsts -/
theorem bUp_firsts (ws : List Tch) (j : Nat) : bUp ws j j = (firstsN ws j).filter fun i => decide (Bare ws j i ∧ ¬ hnd ws i = hnd ws j) := by
  unfold bUp firstsN
  rw [List.filter_filter]
  refine List.filter_congr fun i _ => ?_
  by_cases h : Bare ws j i ∧ ¬ hnd ws i = hnd ws j
  · simp [h, h.1.1]
  · simp [h]
theorem betw {ws : List Tch} {j i : Nat} : (firstsN ws j).filter (fun x => decide (i < x ∧ Rch ws x i)) = [] ↔ ¬ Cov ws j (i + 1) i := by
  constructor
  · rintro h ⟨x, a, b, c⟩
    have r : Rch ws x i := c.resolve_left (by omega)
    have xj := stb_lt b
    have : x ∈ (firstsN ws j).filter (fun x => decide (i < x ∧ Rch ws x i)) := List.mem_filter.mpr ⟨List.mem_filter.mpr ⟨List.mem_range.mpr xj.1, b⟩, by simp [r]; omega⟩
    rw [h] at this
    cases this
  · intro h
    rw [List.filter_eq_nil_iff]
    intro x hx z
    have z := of_decide_eq_true z
    obtain ⟨_, b⟩ := List.mem_filter.mp hx
    exact h ⟨x, by omega, b, .inr z.2⟩
def spLnotes (K : PySem.W.Frag) : Sp := fun vs H Q _ => ∃ (a c t : Addr) (ws : List Tch) (H0 : Hp), vs = [.ref a, .ref c, .ref t] ∧ WebAt H a ws ∧ PrsAt H c (nm ws) ∧ TblAt ws H0 H t ws.length ∧ (∀ x ∈ ws, TchOk x) ∧ ws.length ≤ 300 ∧
  ∀ (r : Addr) (H' : Hp), H r = none → PrsAt H' r (lPairs ws ws.length) → Same H H' → Q (.ref r) H'
theorem fm_val {α : Type} (l : List α) (p : α → Bool) (v : α → V) : (List.range l.length).filterMap (fun i => (l[i]?).bind fun x => if p x = true then some (v x) else none) = (l.filter p).map v := by
  rw [fm_get]
  induction l with
  | nil => rfl
  | cons x l ih =>
    rw [List.filterMap_cons, List.filter_cons]
    by_cases h : p x = true
    · simp [h, ih]
    · simp [h, ih]
theorem dat_intsN {H : Hp} {a : Addr} {l : List Nat} (h : H a = some (.lst (intsN l))) : Dat H (.ref a) (.list ((l.map fun n : Nat => (n : Int)).map PyData.int)) := dat_list (vs := intsN l) h (by
  have := Dats.ints (H := H) (l.map fun n : Nat => (n : Int))
  rw [List.map_map] at this
  exact this)
theorem eqv_nil (l : List Int) : PyData.eqv (.list (l.map PyData.int)) (.list []) = decide (l = []) := by
  cases l with
  | nil => rfl
  | cons x l => simp [PyData.eqv, PyData.eqvAll]
theorem shaped_intsL (ns : List Int) : SeqAt.shaped (.list (ns.map PyData.int)) = true := shaped_list PyData.int 0 (by decide) (fun _ _ => rfl) (fun _ _ => by show 0 ≤ 0; decide)
theorem ok_Lnotes {f : Addr} {fd : FuncData} (F : Fun K "_law_notes" "_law_notes" s_Lnotes f fd) (F_Lstep : FnAt P w K mg base 2 "_law_step" ["one", "other"] (spLstep K)) (Bt : Blt mg) : FnOk P w K mg base CX0 3 f fd ["web", "calls", "table"] (spLnotes K) := by
  refine F.ok sc_Lnotes (fun vs H Q E h => ?_) (fun cdv A outer s H vs Q E hr h => ?_)
  · obtain ⟨a, c, t, ws, H0, rfl, _⟩ := h
    rfl
  · obtain ⟨a, c, t, ws, H0, rfl, W, C, T, ok, wl, k⟩ := h
    have hu64 := hr.units
    obtain ⟨vs, ha, dv⟩ := id W
    have vlen : vs.length = ws.length := by rw [dv.length, List.length_map]
    refine ⟨_, (pss_cons (ps_set (i := 3) sc_Lnotes.nd rfl (Or.inl rfl) (pe_lst pa_nil))
      (pss_cons (ps_for PassesOwn.never rfl (pi_range1 (by rfl) Bt.b_range (pa_cons (pe_callB (call_len_seqK (K := K) rfl) (by rfl) Bt.b_len bt_len (pa_cons (pv 0) pa_nil)) pa_nil)) (pg_name (i := 4) sc_Lnotes.nd rfl (Or.inr rfl))
      (pss_cons (ps_setC (i := 5) rfl sc_Lnotes.nd rfl (Or.inl rfl) (N := ["i", "web", "j"]) (own := ["i"]) (caps := [0, 4]) (CompScope.of (by kernel_rfl)) (pi_range1 (by rfl) Bt.b_range (pa_cons (pv 4) pa_nil)) (fun _ _ _ _ => (pg_name (i := 0) (show List.Nodup (["i", "web", "j"] : List Str) by decide +kernel) rfl (Or.inl rfl))) (fun _ _ _ _ => (pts_one (pt_val (pe_fn F_Lstep (hr.mono (by decide)) (by rfl) (pa_cons (pe_ix (ix_listK (K := K) rfl) (pv 1) (pv 0) (fun _ _ => rfl)) (pa_cons (pe_ix (ix_listK (K := K) rfl) (pv 1) (pv 2) (fun _ _ => rfl)) pa_nil)))))) (fun _ _ _ _ => (pv 0)))
      (pss_one (ps_for PassesOwn.never rfl (pi_listK (K := K) rfl (pv 5)) (pg_name (i := 6) sc_Lnotes.nd rfl (Or.inr rfl))
      (pss_cons (ps_asg (pe_ix (ix_listK (K := K) rfl) (pv 1) (pv 6) (fun _ _ => rfl)) (pg_tupK (K := K) (n := 2) rfl rfl (pgs_cons (pg_name (i := 7) sc_Lnotes.nd rfl (Or.inr rfl)) (pgs_cons (pg_name (i := 8) sc_Lnotes.nd rfl (Or.inr rfl)) pgs_nil))))
      (pss_cons (ps_setC (i := 9) rfl sc_Lnotes.nd rfl (Or.inl rfl) (N := ["x", "i", "k", "hand", "table"]) (own := ["x"]) (caps := [6, 8, 7, 2]) (CompScope.of (by kernel_rfl)) (pi_listK (K := K) rfl (pv 5)) (fun _ _ _ _ => (pg_name (i := 0) (show List.Nodup (["x", "i", "k", "hand", "table"] : List Str) by decide +kernel) rfl (Or.inl rfl))) (fun _ _ _ _ => (pts_one (PW.pt (pw_and (pt_cmpR op_gt (pv 0) (pv 1) (nomark _)) (pw_and1 (pt_cmpR op_lt (pv 2) (pe_ix (ix_listK (K := K) rfl) (pe_ix (ix_listK (K := K) rfl) (pv 4) (pv 0) (fun _ _ => rfl)) (pv 3) (fun _ _ => rfl)) (nomark _))))))) (fun _ _ _ _ => (pv 0)))
      (pss_one (ps_if (PW.pt (pw_and (pt_cmpR op_ne (pv 7) (pe_ix (ix_tupK (K := K) rfl) (pe_ix (ix_listK (K := K) rfl) (pv 0) (pv 4) (fun _ _ => rfl)) pe_int (fun _ _ => rfl)) (nomark _)) (pw_and1 (pt_cmpR (op_eqDK (K := K) rfl hu64) (pv 9) (pe_lst pa_nil) (nomark _))))) (pss_one (ps_expr (pe_appendK (K := K) rfl (pv 3) (pa_cons (pe_tup (pa_cons (pv 6) (pa_cons (pv 4) pa_nil))) pa_nil)))) pss_nil))))))))
      (pss_one (ps_ret (pv 3))))), ?_⟩
    refine ⟨(by show 0 ≤ sizeLine; decide), fun r hr0 => ?_⟩
    have s1 := same_new (o := HO.lst []) hr0
    refine ⟨_, rfl, a, _, rfl, .inl (SqL.of (s1 _ _ ha)), _, rfl, by omega, by omega, ?_⟩
    rw [show ((vs.length : Nat) : Int).toNat = ws.length by omega]
    refine for_range (lo := 0) (n := ws.length) (fun j σ H2 => ∃ (x1 x2 x3 x4 x5 x6 : Option V), σ = [some (.ref a), some (.ref c), some (.ref t), some (.ref r), x1, x2, x3, x4, x5, x6] ∧ Same H H2 ∧ PrsAt H2 r (lPairs ws j))
      ⟨none, none, none, none, none, none, rfl, s1, ⟨[], upd_same, by simp [lPairs, Dats]⟩⟩ ?_ ?_
    · rintro j σ H2 hj ⟨x1, x2, x3, x4, x5, x6, rfl, sm, P2⟩
      obtain ⟨y, ey⟩ : ∃ y, ws[j]? = some y := ⟨ws[j], by simp [hj]⟩
      have hyj := hnd_of ey
      have W2 := W.same sm
      have C2 := C.same sm
      have T2 := T.same sm
      -- firsts
      refine ⟨_, rfl, _, rfl, by omega, by omega, fun D hD => ?_⟩
      rw [show (0 + (j : Int)).toNat = j by omega]
      refine comp_valR (fun i => if stb ws i j = true then some (V.int (0 + (i : Int))) else none) hD (by omega) (fun i H3 G F hi s3 kG kF => ?_) (fun H3 s3 e3 => ?_)
      · have hil : i < ws.length := by omega
        obtain ⟨x, ex⟩ : ∃ x, ws[i]? = some x := ⟨ws[i], by simp [hil]⟩
        have W4 := W2.same s3
        obtain ⟨vs', t1, ha4, e1, ht1⟩ := web_get W4 ex
        obtain ⟨vs'', t2, ha4', e2, ht2⟩ := web_get W4 ey
        have ev : vs' = vs'' := by rw [ha4] at ha4'; injection ha4' with z; injection z
        subst ev
        have es : stb ws i j = (decide (x.1 = y.1) || mt x y) := by unfold stb stw; rw [ex, ey, decide_eq_true hi, Bool.true_and]
        refine ⟨_, rfl, _, rfl, _, _, _, _, rfl, rfl, SqL.of ha4, atI0 e1, _, rfl, _, rfl, _, _, _, _, rfl, rfl, SqL.of ha4, atI0 e2, t1, t2, x, y, rfl, ht1, ht2, _, rfl, ?_⟩
        rw [← es]
        by_cases st : stb ws i j = true
        · rw [st]
          refine iteT ?_
          exact ⟨_, rfl, kF _ H3 (Same.refl _) (by rw [if_pos st])⟩
        · have st' : stb ws i j = false := by simpa using st
          rw [st']
          refine iteF ?_
          exact kG H3 (Same.refl _) (by rw [if_neg st])
      rw [firsts_fm] at e3
      have hD0 : H D = none := sm.free hD
      have fl : (firstsN ws j).length ≤ j := Nat.le_trans (List.length_filter_le _ _) (by simp)
      have il : (intsN (firstsN ws j)).length = (firstsN ws j).length := by rw [intsN, List.length_map]
      have nrD : r ≠ D := by
        obtain ⟨_, h, _⟩ := P2
        exact ne_of_none h hD
      -- for i in firsts
      refine ⟨_, rfl, D, rfl, ⟨_, SqL.of e3⟩, ?_⟩
      refine for_list (K := K) (a := D) (xs := intsN (firstsN ws j)) (fun n σ H4 => ∃ (x3 x4 x5 x6 : Option V), σ = [some (.ref a), some (.ref c), some (.ref t), some (.ref r), some (.int (0 + (j : Int))), some (.ref D), x3, x4, x5, x6] ∧ Same H H4 ∧ H4 D = some (.lst (intsN (firstsN ws j))) ∧ PrsAt H4 r (lPairs ws j ++ (((firstsN ws j).take n).filter fun i => decide (Bare ws j i ∧ ¬ hnd ws i = hnd ws j)).map fun i => prI i j))
        ⟨_, _, _, _, rfl, sm.trans s3, e3, by simpa using P2.same s3⟩ (fun n σ H4 _ ⟨_, _, _, _, _, _, e, _⟩ => SqL.of e) ?_ ?_
      · rintro n v σ H4 hn ⟨x3, x4, x5, x6, rfl, s4, e4, P4⟩
        unfold intsN at hn
        rw [List.getElem?_map] at hn
        cases ei : (firstsN ws j)[n]? with
        | none => rw [ei] at hn; cases hn
        | some i =>
          rw [ei] at hn
          cases hn
          have im := List.mem_of_getElem? ei
          obtain ⟨ir, st⟩ := List.mem_filter.mp im
          have hij : i < j := List.mem_range.mp ir
          have hil : i < ws.length := by omega
          obtain ⟨x, ex⟩ : ∃ x, ws[i]? = some x := ⟨ws[i], by simp [hil]⟩
          obtain ⟨⟨x0, x1'⟩, _⟩ := ok x (List.mem_of_getElem? ex)
          have hxi := hnd_of ex
          obtain ⟨cs, p, hc, ec, hp⟩ := prs_at (C.same s4) (nm_get ex)
          have tk : (firstsN ws j).take (n + 1) = (firstsN ws j).take n ++ [i] := by rw [List.take_add_one, ei]; rfl
          -- hand, k = calls[i]
          refine ⟨_, rfl, _, rfl, _, _, _, _, rfl, rfl, SqL.of hc, atI_nat ec, p, _, rfl, SqT.of hp, rfl, _, _, rfl, _, _, rfl, rfl, ?_⟩
          -- between
          refine ⟨_, rfl, D, rfl, ⟨_, SqL.of e4⟩, fun B hB => ?_⟩
          refine comp_val (K := K) (fun m => ((firstsN ws j)[m]?).bind fun z => if decide (i < z ∧ Rch ws z i) = true then some (V.int (z : Int)) else none) hB (SqL.of e4) (by omega) (fun m v H5 G F hm s5 kG kF => ?_) (fun H5 s5 e5 => ?_)
          · unfold intsN at hm
            rw [List.getElem?_map] at hm
            cases ez : (firstsN ws j)[m]? with
            | none => rw [ez] at hm; cases hm
            | some z =>
              rw [ez] at hm
              cases hm
              have zl : z < j := List.mem_range.mp (List.mem_filter.mp (List.mem_of_getElem? ez)).1
              refine ⟨_, rfl, _, rfl, _, _, rfl, rfl, _, rfl, ?_⟩
              by_cases lt : i < z
              · rw [decide_eq_true (show ((i : Nat) : Int) < ((z : Nat) : Int) by omega)]
                refine iteT ?_
                obtain ⟨rs, ht0, hts, rl, rq⟩ := (T.same s4).same s5
                have hzr : z < rs.length := by omega
                obtain ⟨q, eq⟩ : ∃ q, rs[z]? = some q := ⟨rs[z], by simp [hzr]⟩
                obtain ⟨_, _, rz, hrz, ro⟩ := rq z q eq
                have rol := ro.1
                have rr := ro.2 i x ex
                refine ⟨_, rfl, _, rfl, _, rfl, _, _, _, _, rfl, rfl, SqL.of hts, atI_nat (by rw [List.getElem?_map, eq]; rfl), _, rfl, _, _, _, _, rfl, rfl, SqL.of hrz, atI_gI x0 (by omega), _, _, rfl, rfl, _, rfl, ?_⟩
                by_cases rc : Rch ws z i
                · rw [decide_eq_true (rr.mpr (.inr rc))]
                  refine iteT ?_
                  exact ⟨_, rfl, kF _ H5 (Same.refl _) (by simp [ez, lt, rc])⟩
                · rw [decide_eq_false (fun zz => rc ((rr.mp zz).resolve_left (by omega)))]
                  refine iteF ?_
                  exact kG H5 (Same.refl _) (by simp [ez, lt, rc])
              · rw [decide_eq_false (show ¬ ((i : Nat) : Int) < ((z : Nat) : Int) by omega)]
                refine iteF ?_
                exact kG H5 (Same.refl _) (by simp [ez, lt])
          rw [il, fm_val (firstsN ws j) (fun z => decide (i < z ∧ Rch ws z i)) (fun z : Nat => V.int (z : Int))] at e5
          have e5 : H5 B = some (.lst (intsN ((firstsN ws j).filter fun z => decide (i < z ∧ Rch ws z i)))) := e5
          have hB0 : H B = none := s4.free hB
          have s45 := s4.trans s5
          have P5 := P4.same s5
          obtain ⟨ws', t2, hw5, e2, ht2⟩ := web_get (W.same s45) ey
          -- if hand != web[j][0] and between == []
          refine ⟨_, rfl, _, rfl, _, rfl, _, _, _, _, rfl, rfl, SqL.of hw5, atI0 e2, _, _, _, _, rfl, rfl, SqT.of ht2, rfl, rfl, _, rfl, ?_⟩
          rw [← hxi, ← hyj]
          have fin : ∀ (u1 u2 : Option V) H6, Same H5 H6 → ¬ (Bare ws j i ∧ ¬ hnd ws i = hnd ws j) → ∃ (x3 x4 x5 x6 : Option V), [some (V.ref a), some (.ref c), some (.ref t), some (.ref r), some (.int (0 + (j : Int))), some (.ref D), some (.int (i : Int)), u1, u2, some (.ref B)] = [some (.ref a), some (.ref c), some (.ref t), some (.ref r), some (.int (0 + (j : Int))), some (.ref D), x3, x4, x5, x6] ∧ Same H H6 ∧ H6 D = some (.lst (intsN (firstsN ws j))) ∧ PrsAt H6 r (lPairs ws j ++ (((firstsN ws j).take (n + 1)).filter fun i => decide (Bare ws j i ∧ ¬ hnd ws i = hnd ws j)).map fun i => prI i j) := by
            intro u1 u2 H6 s6 nb
            refine ⟨_, _, _, _, rfl, s45.trans s6, s6 _ _ (s5 _ _ e4), ?_⟩
            rw [tk, List.filter_append]
            simp only [List.filter_cons, nb, decide_false, Bool.false_eq_true, if_false, List.filter_nil, List.append_nil]
            exact P5.same s6
          by_cases eh : hnd ws i = hnd ws j
          · rw [show (!decide (V.int (hnd ws i) = V.int (hnd ws j))) = false by simp [eh]]
            refine iteF ?_
            exact fin _ _ H5 (Same.refl _) fun z => z.2 eh
          · rw [show (!decide (V.int (hnd ws i) = V.int (hnd ws j))) = true by simp [eh]]
            refine iteT ?_
            refine ⟨_, rfl, (by show 0 ≤ sizeLine; decide), fun p0 hp0 => ?_⟩
            have s6 := same_new (o := HO.lst []) hp0
            refine ⟨_, _, dat_intsN (s6 _ _ e5), (show Dat _ (V.ref p0) (.list []) from dat_list (vs := []) upd_same (by simp [Dats])), shaped_intsL _, (show SeqAt.shaped (.list []) = true from shaped_intsL []), _, rfl, ?_⟩
            rw [if_neg Bool.false_ne_true, eqv_nil]
            by_cases cv : Cov ws j (i + 1) i
            · have ne : ¬ ((firstsN ws j).filter fun z => decide (i < z ∧ Rch ws z i)).map (fun n : Nat => (n : Int)) = [] := fun z => absurd cv (betw.mp (List.map_eq_nil_iff.mp z))
              rw [decide_eq_false ne]
              refine iteF ?_
              exact fin _ _ _ s6 fun z => z.1.2 cv
            · have ne : ((firstsN ws j).filter fun z => decide (i < z ∧ Rch ws z i)).map (fun n : Nat => (n : Int)) = [] := by rw [List.map_eq_nil_iff]; exact betw.mpr cv
              rw [decide_eq_true ne]
              refine iteT ?_
              have P6 := P5.same s6
              obtain ⟨ts, hts, dts⟩ := id P6
              have tl : ts.length ≤ j * j + j := by
                rw [dts.length, List.length_map, List.length_append, List.length_map]
                have h1 := lPairs_len ws j
                have h2 : (((firstsN ws j).take n).filter fun i => decide (Bare ws j i ∧ ¬ hnd ws i = hnd ws j)).length ≤ j := Nat.le_trans (List.length_filter_le _ _) (Nat.le_trans (by rw [List.length_take]; omega) fl)
                omega
              have jj : j * j ≤ 300 * 300 := Nat.mul_le_mul (by omega) (by omega)
              refine ⟨_, rfl, .inl ⟨rfl, _, SqL.of hts⟩, _, rfl, _, rfl, (by show 2 ≤ sizeLine; decide), fun q hq => ?_⟩
              have s7 := same_new (o := HO.tup [V.int (i : Int), V.int (0 + (j : Int))]) hq
              refine ⟨r, ts, _, rfl, rfl, s7 _ _ hts, by rw [sizeLine_eq]; omega, ?_⟩
              have k8 : Kp r (upd (upd H5 p0 (.lst [])) q (.tup [V.int (i : Int), V.int (0 + (j : Int))])) (upd (upd (upd H5 p0 (.lst [])) q (.tup [V.int (i : Int), V.int (0 + (j : Int))])) r (.lst (ts ++ [V.ref q]))) := Kp.set
              have t8 := k8.tups (s7 _ _ hts)
              have s57 := s6.trans s7
              refine ⟨_, _, _, _, rfl, fun b u e => k8 _ _ (s57 _ _ (s45 _ _ e)) (ne_of_none e hr0), k8 _ _ (s57 _ _ (s5 _ _ e4)) nrD.symm, ?_⟩
              have nb : Bare ws j i ∧ ¬ hnd ws i = hnd ws j := ⟨⟨st, cv⟩, eh⟩
              rw [tk, List.filter_append, List.map_append, ← List.append_assoc]
              simp only [List.filter_cons, nb, not_false_eq_true, and_self, decide_true, if_true, List.filter_nil, List.map_cons, List.map_nil]
              refine ⟨ts ++ [V.ref q], upd_same, ?_⟩
              rw [List.map_append]
              refine Dats.append (Dats.keep (fun a xs h => t8 _ _ (s7.tups _ _ h)) _ (imms_map _ imm_pD _) dts) (dats_one (dat_prs (x := prI i j) ?_))
              have := t8 _ _ (upd_same (H := upd H5 p0 (.lst [])) (a := q) (o := HO.tup [V.int (i : Int), V.int (0 + (j : Int))]))
              rw [Int.zero_add] at this
              rw [Int.zero_add]
              exact this
      · rintro σ H4 ⟨x3, x4, x5, x6, rfl, s4, e4, P4⟩
        rw [il, List.take_length, ← bUp_firsts, ← lPairs_succ] at P4
        exact ⟨_, _, _, _, _, _, rfl, s4, P4⟩
    · rintro σ H2 ⟨x1, x2, x3, x4, x5, x6, rfl, sm, P2⟩
      exact ⟨_, rfl, k r H2 hr0 P2 sm⟩

/-! ### copies, data of a record -/
def LI (H : Hp) (a : Addr) (os : List Int) : Prop := H a = some (.lst (os.map V.int))

/-! ### lists of numbers -/
theorem LI.same {H H' : Hp} {a : Addr} {os : List Int} (h : LI H a os) (k : Same H H') : LI H' a os := k _ _ h
def nI (l : List Nat) : List Int := l.map fun n : Nat => (n : Int)
theorem nI_len (l : List Nat) : (nI l).length = l.length := by simp [nI]
theorem nI_get {l : List Nat} {i x : Nat} (e : l[i]? = some x) : (nI l)[i]? = some (x : Int) := by unfold nI; rw [List.getElem?_map, e]; rfl

/-! ### places by names, strict notes, wants -/
theorem cnt_mono' {ws : List Tch} {m n : Nat} (h : m ≤ n) (g : Int) : cnt (ws.take m) g ≤ cnt (ws.take n) g := by
  have e : ws.take n = ws.take m ++ (ws.take n).drop m := by
    have := List.take_append_drop m (ws.take n)
    rw [List.take_take, Nat.min_eq_left h] at this
    exact this.symm
  unfold cnt
  rw [e, List.filter_append, List.length_append]
  omega
theorem nm_some {ws : List Tch} {i : Nat} {x : Prs} (h : (nm ws)[i]? = some x) : ∃ y, ws[i]? = some y ∧ x = (y.1, cnt (ws.take i) y.1) := by
  have il : i < ws.length := by have := (List.getElem?_eq_some_iff.mp h).1; rw [nm_length] at this; exact this
  have e : ws[i]? = some ws[i] := by simp [il]
  rw [nm_get e] at h
  exact ⟨ws[i], e, (Option.some.inj h).symm⟩
theorem nm_lt {ws : List Tch} {i j : Nat} {x : Prs} (hi : (nm ws)[i]? = some x) (hj : (nm ws)[j]? = some x) : ¬ i < j := fun lt => by
  obtain ⟨y, ey, e1⟩ := nm_some hi
  obtain ⟨z, ez, e2⟩ := nm_some hj
  rw [e1] at e2
  injection e2 with h1 h2
  have tk : ws.take (i + 1) = ws.take i ++ [y] := by rw [List.take_add_one, ey]; rfl
  have m := cnt_mono' (ws := ws) (m := i + 1) (n := j) lt y.1
  rw [tk, cnt_snoc, if_pos rfl] at m
  rw [← h1] at h2
  omega
theorem nm_inj {ws : List Tch} {i j : Nat} {x : Prs} (hi : (nm ws)[i]? = some x) (hj : (nm ws)[j]? = some x) : i = j := by
  have := nm_lt hi hj
  have := nm_lt hj hi
  omega
def kx (x : Prs) : List Key := [Sum.inl x.1, Sum.inl x.2]
theorem kx_inj {x y : Prs} (h : kx x = kx y) : x = y := by
  unfold kx at h
  injection h with h1 h2
  injection h2 with h2 _
  have a : x.1 = y.1 := Sum.inl.inj h1
  have b : x.2 = y.2 := Sum.inl.inj h2
  exact Prod.ext a b
def PlOk (kvs : List (List Key × V)) (ps : List Prs) : Prop := (∀ (m : Nat) (x : Prs), ps[m]? = some x → valV kvs (kx x) = some (.int m)) ∧ ∀ x : Prs, x ∉ ps → valV kvs (kx x) = none
/-- the table of places by names, as it is filled -/
def plK (ps : List Prs) : List (List Key × V) := (List.range ps.length).filterMap fun m : Nat => (ps[m]?).map fun x => (kx x, V.int (m : Int))
theorem plK_snoc (ps : List Prs) (x : Prs) : plK (ps ++ [x]) = plK ps ++ [(kx x, V.int (ps.length : Int))] := by
  unfold plK
  rw [List.length_append, List.length_singleton, fm_succ]
  congr 1
  · refine fm_congr _ trivial fun m hm => ?_
    have : m < ps.length := by simpa using hm
    rw [List.getElem?_append_left this]
  · simp
theorem plK_get {ps : List Prs} {m : Nat} {k : List Key} {v : V} (h : (plK ps)[m]? = some (k, v)) : ∃ x, ps[m]? = some x ∧ k = kx x ∧ v = .int (m : Int) := by
  have e : plK ps = (List.range ps.length).map fun m : Nat => (kx (ps[m]?.getD (0, 0)), V.int (m : Int)) := by
    unfold plK
    rw [← List.filterMap_eq_map]
    refine fm_congr _ trivial fun m hm => ?_
    have : m < ps.length := by simpa using hm
    simp [List.getElem?_eq_getElem this]
  rw [e, List.getElem?_map] at h
  have hm : m < ps.length := by
    refine Decidable.byContradiction fun n => ?_
    rw [List.getElem?_eq_none (by simp; omega)] at h
    cases h
  rw [List.getElem?_range hm] at h
  cases h
  exact ⟨ps[m], by simp [hm], by simp [hm], rfl⟩
theorem plK_len (ps : List Prs) : (plK ps).length = ps.length := by
  have e : plK ps = (List.range ps.length).map fun m : Nat => (kx (ps[m]?.getD (0, 0)), V.int (m : Int)) := by
    unfold plK
    rw [← List.filterMap_eq_map]
    refine fm_congr _ trivial fun m hm => ?_
    have : m < ps.length := by simpa using hm
    simp [List.getElem?_eq_getElem this]
  rw [e]; simp
theorem put_new {kvs : List (List Key × V)} {k : List Key} {v : V} (h : valV kvs k = none) : putK kvs k v = kvs ++ [(k, v)] := by
  unfold putK
  rw [valV_any, h]
  rfl
def spPlaces (K : PySem.W.Frag) : Sp := fun vs H Q _ => ∃ (a : Addr) (ws : List Tch), vs = [.ref a] ∧ WebAt H a ws ∧ ws.length ≤ 300 ∧ ∀ (d : Addr) (kvs : List (List Key × V)) (H' : Hp), H d = none → H' d = some (.dT kvs) → PlOk kvs (nm ws) → kvs = plK (nm ws) → Same H H' → Q (.ref d) H'
theorem ok_places {f : Addr} {fd : FuncData} (F : Fun K "places_of" "places_of" s_places_of f fd) (F_names : FnAt P w K mg base 1 "names" ["web"] (spNames K)) (Bt : Blt mg) : FnOk P w K mg base CX0 2 f fd ["web"] (spPlaces K) := by
  refine F.ok sc_places_of (fun vs H Q E h => ?_) (fun cdv A outer s H vs Q E hr h => ?_)
  · obtain ⟨a, ws, rfl, _⟩ := h
    rfl
  · obtain ⟨a, ws, rfl, W, wl, k⟩ := h
    have hu := hu_of hr
    refine ⟨_, (pss_cons (ps_set (i := 1) sc_places_of.nd rfl (Or.inl rfl) pe_dnewT)
      (pss_cons (ps_for PassesOwn.never rfl (pi_enumK (K := K) rfl (by rfl) Bt.b_enumerate (pa_cons (pe_fn F_names (hr.mono (by decide)) (by rfl) (pa_cons (pv 0) pa_nil)) pa_nil)) (pg_tupK (K := K) (n := 2) rfl rfl (pgs_cons (pg_name (i := 2) sc_places_of.nd rfl (Or.inl rfl)) (pgs_cons (pg_name (i := 3) sc_places_of.nd rfl (Or.inl rfl)) pgs_nil)))
      (pss_one (ps_dput hu (pv 1) (pv 3) (pv 2) rfl)))
      (pss_one (ps_ret (pv 1))))), ?_⟩
    intro d hd
    have s1 := same_new (o := HO.dT []) hd
    refine ⟨_, rfl, a, ws, rfl, W.same s1, by omega, fun p H2 hp PA s2 => ?_⟩
    obtain ⟨vs, hp2, dv⟩ := id PA
    have vl : vs.length = ws.length := by rw [dv.length, List.length_map, nm_length]
    refine ⟨p, vs, rfl, SqL.of hp2, ?_⟩
    have ndp : d ≠ p := ne_of_none upd_same hp
    refine for_enum (K := K) (a := p) (xs := vs) (fun i σ H3 => ∃ (kvs : List (List Key × V)) (x1 x2 : Option V), σ = [some (.ref a), some (.ref d), x1, x2] ∧ H3 d = some (.dT kvs) ∧ kvs.length ≤ i ∧ PlOk kvs ((nm ws).take i) ∧ Kp d H2 H3 ∧ kvs = plK ((nm ws).take i))
      ⟨[], none, none, rfl, s2 _ _ upd_same, Nat.le_refl _, ⟨fun m x e => by simp at e, fun x _ => rfl⟩, Kp.refl _ _, by simp [plK]⟩ (fun i σ H3 _ ⟨_, _, _, _, _, _, _, kp, _⟩ => SqL.of (kp _ _ hp2 ndp.symm)) ?_ ?_
    · rintro i v σ H3 q hi ⟨kvs, x1, x2, rfl, hd3, kl, pl, kp, ek⟩ hq
      obtain ⟨x, t, ex, rfl, ht⟩ := prs_get dv hi
      have il := (List.getElem?_eq_some_iff.mp hi).1
      have sq := same_new (o := HO.tup [V.int i, V.ref t]) hq
      have ht3 : H3 t = some (.tup [.int x.1, .int x.2]) := kp _ _ ht (ne_of ht (s2 _ _ upd_same) (by intro z; cases z))
      refine ⟨q, _, rfl, SqT.of upd_same, rfl, _, _, rfl, _, _, rfl, rfl, ?_⟩
      refine ⟨_, rfl, _, rfl, _, rfl, d, _, rfl, DPut.t (k := kx x) (sq _ _ hd3) (sq _ _ ht3) (by rw [sizeLine_eq]; omega), ?_⟩
      have tk : (nm ws).take (i + 1) = (nm ws).take i ++ [x] := by rw [List.take_add_one, ex]; rfl
      have tl : ((nm ws).take i).length = i := by rw [List.length_take, nm_length]; omega
      refine ⟨putK kvs (kx x) (V.int i), _, _, rfl, upd_same, ?_, ⟨fun m y e => ?_, fun y hy => ?_⟩, fun b o e nb => ?_, ?_⟩
      · exact Nat.le_trans (length_putK ..) (by omega)
      · rw [valV_put]
        rw [tk] at e
        by_cases hm : m < i
        · rw [List.getElem?_append_left (by omega)] at e
          have ne : ¬ kx y = kx x := fun z => by
            have z := kx_inj z
            subst z
            have e' : (nm ws)[m]? = some y := by rw [List.getElem?_take_of_lt hm] at e; exact e
            have := nm_inj e' ex
            omega
          rw [if_neg ne]
          exact pl.1 m y e
        · rw [List.getElem?_append_right (by omega), tl] at e
          have ml : m - i < 1 := (List.getElem?_eq_some_iff.mp e).1
          have : m = i := by omega
          subst this
          rw [Nat.sub_self] at e
          cases e
          rw [if_pos rfl]
      · rw [tk] at hy
        have n1 : y ∉ (nm ws).take i := fun z => hy (List.mem_append.mpr (.inl z))
        have n2 : y ≠ x := fun z => hy (List.mem_append.mpr (.inr (by rw [z]; simp)))
        rw [valV_put, if_neg (fun z => n2 (kx_inj z))]
        exact pl.2 y n1
      · rw [upd_ne nb]
        exact sq _ _ (kp _ _ e nb)
      · have nx : x ∉ (nm ws).take i := fun z => by
          obtain ⟨m, em⟩ := List.getElem?_of_mem z
          have hm : m < i := by have := (List.getElem?_eq_some_iff.mp em).1; rw [List.length_take] at this; omega
          rw [List.getElem?_take_of_lt hm] at em
          have := nm_inj em ex
          omega
        rw [put_new (pl.2 x nx), ek, tk, plK_snoc, tl]
    · rintro σ H3 ⟨kvs, x1, x2, rfl, hd3, kl, pl, kp, ek⟩
      have e : (nm ws).take vs.length = nm ws := by rw [vl, ← nm_length ws, List.take_length]
      rw [e] at pl ek
      exact ⟨_, rfl, k d kvs H3 hd hd3 pl ek fun b o eb => kp _ _ (s2 _ _ (s1 _ _ eb)) (ne_of_none eb hd)⟩

/-! ### cuts -/
def spIsNote (K : PySem.W.Frag) : Sp := fun vs H Q _ => ∃ (t : Addr) (x : Nt), vs = [.ref t] ∧ H t = some (.tup (nV x)) ∧ ∀ H', Same H H' → Q (.bl (!decide (x.1 = x.2.2.1))) H'
theorem ok_is_note {f : Addr} {fd : FuncData} (F : Fun K "is_note" "is_note" s_is_note f fd) (F_is_whole : FnAt P w K mg base 1 "is_whole" ["value"] (spWh K)) (Bt : Blt mg) : FnOk P w K mg base CX0 2 f fd ["value"] (spIsNote K) := by
  refine F.ok sc_is_note (fun vs H Q E h => ?_) (fun cdv A outer s H vs Q E hr h => ?_)
  · obtain ⟨t, x, rfl, _⟩ := h
    rfl
  · obtain ⟨t, x, rfl, ht, k⟩ := h
    have hu64 := hr.units
    refine ⟨_, (pss_cons (ps_if (PW.pt (pw_or (pt_not (pt_val (pe_callB (call_isiK (K := K) (cv := .ty "tuple") (c := .type "tuple") rfl rfl) (by rfl) Bt.b_isinstance bt_isinstance (pa_cons (pv 0) (pa_cons (pe_bltn (v := .ty "tuple") (by rfl) Bt.b_tuple bt_tuple rfl) pa_nil))))) (pw_or1 (pt_cmpR op_ne (pe_callB (call_len_seqK (K := K) rfl) (by rfl) Bt.b_len bt_len (pa_cons (pv 0) pa_nil)) pe_int (nomark _))))) (pss_one (ps_ret pe_bl)) pss_nil)
      (pss_one (ps_ret (pe_and (pe_callB (call_all_boolsK (K := K) rfl rfl) (by rfl) Bt.b_all bt_all (pa_cons (pe_comp rfl (N := ["number"]) (own := ["number"]) (caps := []) (CompScope.of (by kernel_rfl)) (pi_tupK (K := K) rfl (pv 0)) (fun _ _ _ _ => (pg_name (i := 0) (show List.Nodup (["number"] : List Str) by decide +kernel) rfl (Or.inl rfl))) (fun _ _ _ _ => pts_nil) (fun _ _ _ _ => (pe_fn F_is_whole (hr.mono (by decide)) (by rfl) (pa_cons (pv 0) pa_nil)))) pa_nil)) (pe_one (pe_cmpR op_ne (pe_ix (ix_tupK (K := K) rfl) (pv 0) pe_int (fun _ _ => rfl)) (pe_ix (ix_tupK (K := K) rfl) (pv 0) pe_int (fun _ _ => rfl)) (nomark _))))))), ?_⟩
    refine ⟨_, rfl, _, _, true, rfl, .tup ht, isi_tuple_tuple K, true, rfl, ?_⟩
    refine iteF ?_
    refine ⟨_, rfl, t, _, rfl, .inr (SqT.of ht), rfl, _, rfl, ?_⟩
    refine iteNS (by rfl) ?_
    refine ⟨_, rfl, t, rfl, ⟨_, SqT.of ht⟩, fun D hD => ?_⟩
    refine comp_valT (K := K) (fun i => some (.bl true)) hD ht (by show 4 ≤ 100000; decide) (fun i v H2 G F hi s2 kG kF => ?_) (fun H2 s2 e2 => ?_)
    · obtain ⟨z, rfl⟩ : ∃ z, v = V.int z := by
        have hm := List.mem_of_getElem? hi
        simp only [nV, List.mem_cons, List.not_mem_nil, or_false] at hm
        rcases hm with rfl | rfl | rfl | rfl <;> exact ⟨_, rfl⟩
      exact ⟨_, rfl, z, rfl, kF _ H2 (Same.refl _) rfl⟩
    · refine ⟨D, [true, true, true, true], rfl, SqL.of e2, true, rfl, ?_⟩
      refine iteT ?_
      refine ⟨_, rfl, _, _, _, _, rfl, rfl, SqT.of (s2 _ _ ht), rfl, _, rfl, _, _, _, _, rfl, rfl, SqT.of (s2 _ _ ht), rfl, rfl, ?_⟩
      have e : (!decide (V.int x.1 = V.int x.2.2.1)) = (!decide (x.1 = x.2.2.1)) := by
        by_cases q : x.1 = x.2.2.1
        · simp [q]
        · simp [q]
      show Q (.bl (!decide (V.int x.1 = V.int x.2.2.1))) H2
      rw [e]
      exact k H2 s2

theorem eqv_nD (x y : Nt) : PyData.eqv (nD x) (nD y) = decide (x = y) := by
  obtain ⟨a, b, c, d⟩ := x
  obtain ⟨a', b', c', d'⟩ := y
  simp only [nD, PyData.eqv, PyData.eqvAll, Bool.and_true]
  by_cases e1 : a = a'
  · subst e1
    by_cases e2 : b = b'
    · subst e2
      by_cases e3 : c = c'
      · subst e3
        by_cases e4 : d = d'
        · subst e4; simp
        · simp [e4]
      · simp [e3]
    · simp [e2]
  · simp [e1]
theorem shaped_nts (ns : List Nt) : SeqAt.shaped (.list (ns.map nD)) = true :=
  shaped_list nD 1 (by decide) (fun _ _ => rfl) (fun _ _ => by show (max 0 (max 0 (max 0 (max 0 0)))) + 1 ≤ 1; decide)
theorem nm_at {ws : List Tch} {i : Nat} (h : i < ws.length) : (nm ws)[i]? = some (hnd ws i, cnt (ws.take i) (hnd ws i)) := by
  have e : ws[i]? = some ws[i] := by simp [h]
  rw [nm_get e]
  rw [hnd_of e]

def n1 (x : Nt) : Prs := (x.1, x.2.1)
def n2 (x : Nt) : Prs := (x.2.2.1, x.2.2.2)
/-- a strict note of the web, between these places -/
def StrAt (ws : List Tch) (x : Nt) (i j : Nat) : Prop := x.1 ≠ x.2.2.1 ∧ (nm ws)[i]? = some (n1 x) ∧ (nm ws)[j]? = some (n2 x) ∧ i < j
def StrP (ws : List Tch) (x : Nt) : Prop := ∃ i j, StrAt ws x i j
theorem mem_get {α : Type} {x : α} {l : List α} (h : x ∈ l) : ∃ i : Nat, l[i]? = some x := List.getElem?_of_mem h
def spStrict (K : PySem.W.Frag) : Sp := fun vs H Q _ => ∃ (d t : Addr) (kvs : List (List Key × V)) (ws : List Tch) (x : Nt), vs = [.ref d, .ref t] ∧ H d = some (.dT kvs) ∧ PlOk kvs (nm ws) ∧ H t = some (.tup (nV x)) ∧ ∀ (bl : Bool) (H' : Hp), (bl = true ↔ StrP ws x) → Same H H' → Q (.bl bl) H'
theorem ok_strict {f : Addr} {fd : FuncData} (F : Fun K "is_strict" "is_strict" s_is_strict f fd) (F_is_note : FnAt P w K mg base 2 "is_note" ["value"] (spIsNote K)) : FnOk P w K mg base CX0 3 f fd ["places", "note"] (spStrict K) := by
  refine F.ok sc_is_strict (fun vs H Q E h => ?_) (fun cdv A outer s H vs Q E hr h => ?_)
  · obtain ⟨d, t, kvs, ws, x, rfl, _⟩ := h
    rfl
  · obtain ⟨d, t, kvs, ws, x, rfl, hd, pl, ht, k⟩ := h
    have hu := hu_of hr
    refine ⟨_, (pss_cons (ps_if (PW.pt (pw_or (pt_not (pt_val (pe_fn F_is_note (hr.mono (by decide)) (by rfl) (pa_cons (pv 1) pa_nil)))) (pw_or (pt_cmp (pc_dnotin hu (pe_slice (sl_tupK (K := K) rfl) (pv 1) po_none (po_some pe_int)) (pv 0))) (pw_or1 (pt_cmp (pc_dnotin hu (pe_slice (sl_tupK (K := K) rfl) (pv 1) (po_some pe_int) po_none) (pv 0))))))) (pss_one (ps_ret pe_bl)) pss_nil)
      (pss_one (ps_ret (pe_cmpR op_lt (pe_dget hu (pv 0) (pe_slice (sl_tupK (K := K) rfl) (pv 1) po_none (po_some pe_int)) (fun _ _ => rfl)) (pe_dget hu (pv 0) (pe_slice (sl_tupK (K := K) rfl) (pv 1) (po_some pe_int) po_none) (fun _ _ => rfl)) (nomark _))))), ?_⟩
    refine ⟨_, rfl, t, x, rfl, ht, fun H1 s1 => ⟨_, rfl, ?_⟩⟩
    have ht1 := s1 _ _ ht
    have hd1 := s1 _ _ hd
    have no : ∀ {H' : Hp}, Same H1 H' → ¬ StrP ws x → Q (.bl false) H' := fun sm z => k false _ ⟨fun w => (by cases w), fun w => absurd w z⟩ (s1.trans sm)
    by_cases hne : x.1 = x.2.2.1
    · rw [show (!decide (x.1 = x.2.2.1)) = false by simp [hne]]
      exact iteT (no (Same.refl _) fun ⟨_, _, z, _⟩ => z hne)
    rw [show (!decide (x.1 = x.2.2.1)) = true by simp [hne]]
    refine iteF ?_
    refine ⟨_, rfl, _, rfl, _, _, rfl, SqT.of ht1, part4a _ rfl, fun p1 hp1 => ?_⟩
    rw [show cutV (nV x) none (some 2) = [.int x.1, .int x.2.1] from cut4a ..]
    have s2 := same_new (o := HO.tup [V.int x.1, V.int x.2.1]) hp1
    refine ⟨_, rfl, d, _, rfl, DGet.t (k := kx (n1 x)) (s2 _ _ hd1) upd_same, _, rfl, ?_⟩
    by_cases m1 : n1 x ∈ nm ws
    rotate_left
    · rw [pl.2 _ m1]
      exact iteT (no s2 fun ⟨i, j, _, z, _⟩ => m1 (List.mem_of_getElem? z))
    obtain ⟨i, ei⟩ := mem_get m1
    rw [pl.1 i _ ei]
    refine iteF ?_
    have ht2 := s2 _ _ ht1
    have hd2 := s2 _ _ hd1
    refine ⟨_, rfl, _, rfl, _, _, rfl, SqT.of ht2, part4b _ rfl, fun p2 hp2 => ?_⟩
    rw [show cutV (nV x) (some 2) none = [.int x.2.2.1, .int x.2.2.2] from cut4b ..]
    have s3 := same_new (o := HO.tup [V.int x.2.2.1, V.int x.2.2.2]) hp2
    have s23 := s2.trans s3
    refine ⟨_, rfl, d, _, rfl, DGet.t (k := kx (n2 x)) (s3 _ _ hd2) upd_same, _, rfl, ?_⟩
    by_cases m2 : n2 x ∈ nm ws
    rotate_left
    · rw [pl.2 _ m2]
      exact iteT (no s23 fun ⟨i, j, _, _, z, _⟩ => m2 (List.mem_of_getElem? z))
    obtain ⟨j, ej⟩ := mem_get m2
    rw [pl.1 j _ ej]
    refine iteF ?_
    refine ⟨_, rfl, _, rfl, _, rfl, _, _, rfl, SqT.of (s3 _ _ ht2), part4a _ rfl, fun p3 hp3 => ?_⟩
    rw [show cutV (nV x) none (some 2) = [.int x.1, .int x.2.1] from cut4a ..]
    have s4 := same_new (o := HO.tup [V.int x.1, V.int x.2.1]) hp3
    have s24 := s23.trans s4
    refine ⟨d, _, rfl, pl.1 i _ ei ▸ DGet.t (k := kx (n1 x)) (s24 _ _ hd1) upd_same, ?_⟩
    refine ⟨_, rfl, _, rfl, _, rfl, _, _, rfl, SqT.of (s24 _ _ ht1), part4b _ rfl, fun p4 hp4 => ?_⟩
    rw [show cutV (nV x) (some 2) none = [.int x.2.2.1, .int x.2.2.2] from cut4b ..]
    have s5 := same_new (o := HO.tup [V.int x.2.2.1, V.int x.2.2.2]) hp4
    have s25 := s24.trans s5
    refine ⟨d, _, rfl, pl.1 j _ ej ▸ DGet.t (k := kx (n2 x)) (s25 _ _ hd1) upd_same, _, _, rfl, rfl, ?_⟩
    refine k _ _ ?_ (s1.trans s25)
    rw [decide_eq_true_iff]
    constructor
    · intro z
      exact ⟨i, j, hne, ei, ej, by omega⟩
    · rintro ⟨i', j', _, a, b, c⟩
      have := nm_inj a ei
      have := nm_inj b ej
      omega

/-! ### steps by the hands' own order and by notes -/
def SE (ws : List Tch) (ns : List Nt) (a b : Nat) : Prop := (a < b ∧ b < ws.length ∧ hnd ws a = hnd ws b ∧ cnt (ws.take b) (hnd ws b) = cnt (ws.take a) (hnd ws a) + 1) ∨ ∃ x ∈ ns, StrAt ws x a b
theorem SE.lt {ws : List Tch} {ns : List Nt} {a b : Nat} (h : SE ws ns a b) : a < b ∧ b < ws.length := by
  rcases h with ⟨h1, h2, _⟩ | ⟨x, _, _, _, h3, h4⟩
  · exact ⟨h1, h2⟩
  · have := (List.getElem?_eq_some_iff.mp h3).1
    rw [nm_length] at this
    exact ⟨h4, this⟩
def spCSn (K : PySem.W.Frag) : Sp := fun vs H Q _ => ∃ (d s : Addr) (kvs : List (List Key × V)) (ws : List Tch) (ns : List Nt), vs = [.ref d, .ref s] ∧ H d = some (.dT kvs) ∧ PlOk kvs (nm ws) ∧ NtsAt H s ns ∧ ns.length ≤ 100000 ∧ (∀ x ∈ ns, StrP ws x) ∧ ∀ H', Same H H' → Q .non H'
theorem ok_csn {f : Addr} {fd : FuncData} (F : Fun K "check_strict" "check_strict" s_check_strict f fd) (F_is_strict : FnAt P w K mg base 3 "is_strict" ["places", "note"] (spStrict K)) (Bt : Blt mg) : FnOk P w K mg base CX0 4 f fd ["places", "some"] (spCSn K) := by
  refine F.ok sc_check_strict (fun vs H Q E h => ?_) (fun cdv A outer s H vs Q E hr h => ?_)
  · obtain ⟨d, s, kvs, ws, ns, rfl, _⟩ := h
    rfl
  · obtain ⟨d, sa, kvs, ws, ns, rfl, hd, pl, N, nl, st, k⟩ := h
    refine ⟨_, (pss_one (ps_if (pt_not (pt_val (pe_callB (call_all_boolsK (K := K) rfl rfl) (by rfl) Bt.b_all bt_all (pa_cons (pe_comp rfl (N := ["note", "places"]) (own := ["note"]) (caps := [0]) (CompScope.of (by kernel_rfl)) (pi_listK (K := K) rfl (pv 1)) (fun _ _ _ _ => (pg_name (i := 0) (show List.Nodup (["note", "places"] : List Str) by decide +kernel) rfl (Or.inl rfl))) (fun _ _ _ _ => pts_nil) (fun _ _ _ _ => (pe_fn F_is_strict (hr.mono (by decide)) (by rfl) (pa_cons (pv 1) (pa_cons (pv 0) pa_nil))))) pa_nil)))) (pss_one ps_never) pss_nil)), ?_⟩
    obtain ⟨vs, hv, dv⟩ := id N
    have vl : vs.length = ns.length := by rw [dv.length, List.length_map]
    refine ⟨_, rfl, sa, rfl, ⟨_, SqL.of hv⟩, fun D hD => ?_⟩
    refine comp_val (K := K) (a := sa) (xs := vs) (fun i => (vs[i]?).map fun _ => V.bl true) hD (SqL.of hv) (by omega) (fun i v H1 G F' hi s1 kG kF => ?_) (fun H1 s1 e1 => ?_)
    · obtain ⟨x, t, ex, rfl, ht⟩ := nts_get dv hi
      refine ⟨_, rfl, _, rfl, d, t, kvs, ws, x, rfl, s1 _ _ hd, pl, s1 _ _ ht, fun bl H2 hb s2 => ?_⟩
      have : bl = true := hb.mpr (st x (List.mem_of_getElem? ex))
      subst this
      exact kF _ _ s2 (by rw [hi]; rfl)
    · rw [fm_some] at e1
      have e1' : H1 D = some (.lst ((vs.map fun _ => true).map V.bl)) := by rw [e1, List.map_map]; rfl
      refine ⟨D, _, rfl, SqL.of e1', _, rfl, ?_⟩
      rw [show (vs.map fun _ => true).all id = true by rw [List.all_eq_true]; intro b hb; obtain ⟨_, _, rfl⟩ := List.mem_map.mp hb; rfl]
      exact (show if false = true then _ else _ from iteF (k _ s1))

def spSb (K : PySem.W.Frag) : Sp := fun vs H Q _ => ∃ (d s : Addr) (kvs : List (List Key × V)) (ws : List Tch) (ns : List Nt), vs = [.ref d, .ref s] ∧ H d = some (.dT kvs) ∧ kvs = plK (nm ws) ∧ PlOk kvs (nm ws) ∧ ws.length ≤ 300 ∧ NtsAt H s ns ∧ ns.length ≤ 95000 ∧ (∀ x ∈ ns, StrP ws x) ∧
  ∀ (r : Addr) (es : List Prs) H', H r = none → PrsAt H' r es → es.length ≤ 95300 → (∀ x ∈ es, ∃ a b, x = prI a b ∧ SE ws ns a b) → (∀ a b, SE ws ns a b → prI a b ∈ es) → Same H H' → Q (.ref r) H'
theorem kx_map (x : Prs) : (kx x).map kV = [.int x.1, .int x.2] := rfl
theorem nm_at' {ws : List Tch} {i : Nat} {x : Prs} (e : (nm ws)[i]? = some x) : i < ws.length ∧ x = (hnd ws i, cnt (ws.take i) (hnd ws i)) := by
  have hl : i < ws.length := by have := (List.getElem?_eq_some_iff.mp e).1; rwa [nm_length] at this
  rw [nm_at hl] at e
  exact ⟨hl, (Option.some.inj e).symm⟩
theorem nm_prev (ws : List Tch) (h : Int) : ∀ j, j ≤ ws.length → 0 < cnt (ws.take j) h → ∃ m, m < j ∧ hnd ws m = h ∧ cnt (ws.take m) h = cnt (ws.take j) h - 1
  | 0, _, hp => by simp [cnt] at hp
  | j + 1, hj, hp => by
    have e : ws[j]? = some (ws[j]'(by omega)) := by simp
    have tk : ws.take (j + 1) = ws.take j ++ [ws[j]'(by omega)] := by rw [List.take_add_one, e]; rfl
    rw [tk, cnt_snoc] at hp ⊢
    by_cases q : h = (ws[j]'(by omega)).1
    · rw [if_pos q]
      exact ⟨j, by omega, by rw [hnd_of e, q], by omega⟩
    · rw [if_neg q] at hp ⊢
      obtain ⟨m, m1, m2, m3⟩ := nm_prev ws h j (by omega) hp
      exact ⟨m, by omega, m2, m3⟩
/-- the place of the hand's touch ahead -/
def prv (ws : List Tch) (i : Nat) : Nat := (nm ws).idxOf (hnd ws i, cnt (ws.take i) (hnd ws i) - 1)
theorem prv_at {ws : List Tch} {i : Nat} (hi : i < ws.length) (hp : 0 < cnt (ws.take i) (hnd ws i)) : (nm ws)[prv ws i]? = some (hnd ws i, cnt (ws.take i) (hnd ws i) - 1) := by
  obtain ⟨m, m1, m2, m3⟩ := nm_prev ws (hnd ws i) i (by omega) hp
  have hm : (hnd ws i, cnt (ws.take i) (hnd ws i) - 1) ∈ nm ws := List.mem_of_getElem? (i := m) (by rw [nm_at (show m < ws.length by omega), m2, m3])
  have hl := List.idxOf_lt_length_iff.mpr hm
  unfold prv
  rw [List.getElem?_eq_getElem hl, List.getElem_idxOf hl]
theorem prv_se {ws : List Tch} {i : Nat} (ns : List Nt) (hi : i < ws.length) (hp : 0 < cnt (ws.take i) (hnd ws i)) : SE ws ns (prv ws i) i := by
  have e := prv_at hi hp
  obtain ⟨m, m1, m2, m3⟩ := nm_prev ws (hnd ws i) i (by omega) hp
  have e2 : (nm ws)[m]? = some (hnd ws i, cnt (ws.take i) (hnd ws i) - 1) := by rw [nm_at (show m < ws.length by omega), m2, m3]
  rw [nm_inj e e2]
  exact .inl ⟨m1, hi, m2, by rw [m2, m3]; omega⟩
theorem se_prv {ws : List Tch} {a b : Nat} (h1 : a < b) (h2 : b < ws.length) (h3 : hnd ws a = hnd ws b) (h4 : cnt (ws.take b) (hnd ws b) = cnt (ws.take a) (hnd ws a) + 1) : 0 < cnt (ws.take b) (hnd ws b) ∧ a = prv ws b := by
  have := cnt_nn (ws.take a) (hnd ws a)
  refine ⟨by omega, nm_inj (x := (hnd ws b, cnt (ws.take b) (hnd ws b) - 1)) ?_ (prv_at h2 (by omega))⟩
  rw [nm_at (show a < ws.length by omega), h3]
  congr 2
  rw [h3] at h4
  omega
/-- the places of a strict note -/
def p1 (ws : List Tch) (x : Nt) : Nat := (nm ws).idxOf (n1 x)
def p2 (ws : List Tch) (x : Nt) : Nat := (nm ws).idxOf (n2 x)
theorem str_at {ws : List Tch} {x : Nt} (h : StrP ws x) : StrAt ws x (p1 ws x) (p2 ws x) := by
  obtain ⟨i, j, ne, h1, h2, lt⟩ := h
  have get : ∀ {y : Prs} {i : Nat}, (nm ws)[i]? = some y → (nm ws)[(nm ws).idxOf y]? = some y := fun {y i} e => by
    have hl := List.idxOf_lt_length_iff.mpr (List.mem_of_getElem? e)
    rw [List.getElem?_eq_getElem hl, List.getElem_idxOf hl]
  have e1 := get h1
  have e2 := get h2
  have q1 : p1 ws x = i := nm_inj e1 h1
  have q2 : p2 ws x = j := nm_inj e2 h2
  rw [q1, q2]
  exact ⟨ne, h1, h2, lt⟩
theorem str_uniq {ws : List Tch} {x : Nt} {i j i' j' : Nat} (h : StrAt ws x i j) (h' : StrAt ws x i' j') : i = i' ∧ j = j' := ⟨nm_inj h.2.1 h'.2.1, nm_inj h.2.2.1 h'.2.2.1⟩
theorem ok_sb {f : Addr} {fd : FuncData} (F : Fun K "steps_by" "steps_by" s_steps_by f fd) (Bt : Blt mg) : FnOk P w K mg base CX0 1 f fd ["places", "some"] (spSb K) := by
  refine F.ok sc_steps_by (fun vs H Q E h => ?_) (fun cdv A outer s H vs Q E hr h => ?_)
  · obtain ⟨d, s, kvs, ws, ns, rfl, _⟩ := h
    rfl
  · obtain ⟨d, sa, kvs, ws, ns, rfl, hd, ek, pl, wl, N, nl, st, k⟩ := h
    have hu := hu_of hr
    refine ⟨_, (pss_cons (ps_thawT (ps_setC (i := 2) rfl sc_steps_by.nd rfl (Or.inl rfl) (N := ["name", "places"]) (own := ["name"]) (caps := [0]) (CompScope.of (by kernel_rfl)) (pi_dictT (pv 0)) (fun _ _ _ _ => (pg_name (i := 0) (show List.Nodup (["name", "places"] : List Str) by decide +kernel) rfl (Or.inl rfl))) (fun _ _ _ _ => (pts_one (pt_cmpR op_gt (pe_ix (ix_tupK (K := K) rfl) (pv 0) pe_int (fun _ _ => rfl)) pe_int (nomark _)))) (fun _ _ _ _ => (pe_tup (pa_cons (pe_dget hu (pv 1) (pe_tup (pa_cons (pe_ix (ix_tupK (K := K) rfl) (pv 0) pe_int (fun _ _ => rfl)) (pa_cons (pe_op op_sub (pe_ix (ix_tupK (K := K) rfl) (pv 0) pe_int (fun _ _ => rfl)) pe_int) pa_nil))) (fun _ _ => rfl)) (pa_cons (pe_dget hu (pv 1) (pv 0) (fun _ _ => rfl)) pa_nil))))))
      (pss_cons (ps_expr (pe_bmK (K := K) rfl PySem.F.plainAttrs_list PySem.F.slot_list_extend PySem.F.type_list_extend mt_extend (pv 2) (pa_cons (pe_comp rfl (N := ["note", "places"]) (own := ["note"]) (caps := [0]) (CompScope.of (by kernel_rfl)) (pi_listK (K := K) rfl (pv 1)) (fun _ _ _ _ => (pg_name (i := 0) (show List.Nodup (["note", "places"] : List Str) by decide +kernel) rfl (Or.inl rfl))) (fun _ _ _ _ => pts_nil) (fun _ _ _ _ => (pe_tup (pa_cons (pe_dget hu (pv 1) (pe_slice (sl_tupK (K := K) rfl) (pv 0) po_none (po_some pe_int)) (fun _ _ => rfl)) (pa_cons (pe_dget hu (pv 1) (pe_slice (sl_tupK (K := K) rfl) (pv 0) (po_some pe_int) po_none) (fun _ _ => rfl)) pa_nil))))) pa_nil)))
      (pss_one (ps_ret (pv 2))))), ?_⟩
    have klen : kvs.length = ws.length := by rw [ek, plK_len, nm_length]
    refine ⟨_, rfl, d, kvs, rfl, hd, fun o D hD => ?_⟩
    have fz : (upd H d (.frz o (.dT kvs))) d = some (.frz o (.dT kvs)) := upd_same
    have ndD : D ≠ d := fun z => by rw [z, upd_same] at hD; cases hD
    have hD0 : H D = none := by rwa [upd_ne ndD] at hD
    refine comp_datT (fun i => if 0 < cnt (ws.take i) (hnd ws i) then some (pD (prI (prv ws i) i)) else none) (fun i dd e => ?_) hD fz (by omega) (fun i kk v b H1 G F' hi hb s1 kG kF => ?_) (fun H1 vs s1 e1 d1 => ?_)
    · by_cases z : 0 < cnt (ws.take i) (hnd ws i)
      · rw [if_pos z] at e; cases e; rfl
      · rw [if_neg z] at e; cases e
    · rw [ek] at hi
      obtain ⟨x, ex, rfl, rfl⟩ := plK_get hi
      obtain ⟨il, rfl⟩ := nm_at' ex
      rw [kx_map] at hb
      refine ⟨_, rfl, _, _, _, _, rfl, rfl, SqT.of hb, rfl, _, _, rfl, rfl, _, rfl, ?_⟩
      refine ite2 (fun hp => ?_) (fun hp => ?_)
      · have hp : 0 < cnt (ws.take i) (hnd ws i) := of_decide_eq_true hp
        have epv := prv_at il hp
        refine ⟨_, rfl, _, rfl, _, _, _, _, rfl, rfl, SqT.of hb, rfl, _, rfl, _, _, _, _, rfl, rfl, SqT.of hb, rfl, _, _, rfl, rfl, (by show 2 ≤ sizeLine; decide), fun u hu' => ?_⟩
        have su := same_new (o := HO.tup [V.int (hnd ws i), V.int (cnt (ws.take i) (hnd ws i) - 1)]) hu'
        refine ⟨d, V.int (prv ws i : Nat), rfl, .inr ⟨kvs, kx (hnd ws i, cnt (ws.take i) (hnd ws i) - 1), u, .inr ⟨o, su _ _ (s1 _ _ fz)⟩, rfl, upd_same, (pl.1 _ _ epv).symm⟩, ?_⟩
        refine ⟨_, rfl, _, rfl, d, V.int (i : Nat), rfl, .inr ⟨kvs, kx (hnd ws i, cnt (ws.take i) (hnd ws i)), b, .inr ⟨o, su _ _ (s1 _ _ fz)⟩, rfl, su _ _ hb, (pl.1 _ _ ex).symm⟩, (by show 2 ≤ sizeLine; decide), fun w hw => ?_⟩
        have sw := same_new (o := HO.tup [V.int (prv ws i : Nat), V.int (i : Nat)]) hw
        exact kF _ (pD (prI (prv ws i) i)) _ (su.trans sw) (if_pos hp) (dat_prs (x := prI (prv ws i) i) upd_same)
      · have hp : ¬ 0 < cnt (ws.take i) (hnd ws i) := fun z => hp (decide_eq_true z)
        exact kG _ (Same.refl _) (if_neg hp)
    · -- let go again
      have fz1 := s1 _ _ fz
      refine ⟨_, ⟨d, kvs, o, kvs, hd, fz1, rfl⟩, ?_⟩
      have sm : Same H (upd H1 d (.dT kvs)) := fun b u e => by
        by_cases q : b = d
        · subst q; rw [hd] at e; cases e; exact upd_same
        · rw [upd_ne q]; exact s1 _ _ (by rw [upd_ne q]; exact e)
      have tk : ∀ a xs, H1 a = some (HO.tup xs) → (upd H1 d (.dT kvs)) a = some (HO.tup xs) := fun a xs h => by
        have : a ≠ d := fun z => by rw [z, fz1] at h; cases h
        rw [upd_ne this]; exact h
      have e2 : (upd H1 d (.dT kvs)) D = some (.lst vs) := by rw [upd_ne ndD]; exact e1
      have hfl : (List.range kvs.length).filterMap (fun i => if 0 < cnt (ws.take i) (hnd ws i) then some (pD (prI (prv ws i) i)) else none) = ((List.range ws.length).filterMap fun i => if 0 < cnt (ws.take i) (hnd ws i) then some (prI (prv ws i) i) else none).map pD := by
        rw [klen, List.map_filterMap]
        refine fm_congr _ trivial fun i _ => ?_
        split <;> rfl
      rw [hfl] at d1
      have P2 : PrsAt (upd H1 d (.dT kvs)) D ((List.range ws.length).filterMap fun i => if 0 < cnt (ws.take i) (hnd ws i) then some (prI (prv ws i) i) else none) := ⟨vs, e2, Dats.keep tk _ (imms_map _ imm_pD _) d1⟩
      have hd2 : (upd H1 d (.dT kvs)) d = some (.dT kvs) := upd_same
      have len1 := fm_len (fun i : Nat => if 0 < cnt (ws.take i) (hnd ws i) then some (prI (prv ws i) i) else none) ws.length
      generalize upd H1 d (.dT kvs) = H2 at sm P2 hd2 ⊢
      clear e2 tk
      have N2 := N.same sm
      obtain ⟨nv, hnv, dnv⟩ := id N2
      have nvl : nv.length = ns.length := by rw [dnv.length, List.length_map]
      obtain ⟨v2, hv2, dv2⟩ := id P2
      have v2l : v2.length ≤ ws.length := by rw [dv2.length, List.length_map]; exact len1
      -- steps.extend(..)
      refine ⟨_, rfl, .inl ⟨rfl, _, SqL.of hv2⟩, _, rfl, sa, rfl, ⟨_, SqL.of hnv⟩, fun D2 hD2 => ?_⟩
      have nDD : D ≠ D2 := ne_of_none hv2 hD2
      refine comp_datL (K := K) (fun i => (ns[i]?).map fun x => pD (prI (p1 ws x) (p2 ws x))) (fun i dd e => ?_) hD2 (SqL.of hnv) (by omega) (fun i v H3 G F' hi s3 kG kF => ?_) (fun H3 us s3 e3 d3 => ?_)
      · cases ex : ns[i]? with
        | none => rw [ex] at e; cases e
        | some x => rw [ex] at e; cases e; rfl
      · obtain ⟨x, t, ex, rfl, ht⟩ := nts_get dnv hi
        have sx := str_at (st x (List.mem_of_getElem? ex))
        have ht3 := s3 _ _ ht
        refine ⟨_, rfl, _, rfl, _, rfl, t, _, rfl, SqT.of ht3, part4a _ rfl, fun u hu' => ?_⟩
        rw [show cutV (nV x) none (some 2) = [V.int x.1, V.int x.2.1] from cut4a _ _ _ _]
        have su := same_new (o := HO.tup [V.int x.1, V.int x.2.1]) hu'
        refine ⟨d, V.int (p1 ws x : Nat), rfl, by rw [← pl.1 _ _ sx.2.1]; exact DGet.t (su _ _ (s3 _ _ hd2)) upd_same, ?_⟩
        refine ⟨_, rfl, _, rfl, _, rfl, t, _, rfl, SqT.of (su _ _ ht3), part4b _ rfl, fun w hw => ?_⟩
        rw [show cutV (nV x) (some 2) none = [V.int x.2.2.1, V.int x.2.2.2] from cut4b _ _ _ _]
        have sw := same_new (o := HO.tup [V.int x.2.2.1, V.int x.2.2.2]) hw
        refine ⟨d, V.int (p2 ws x : Nat), rfl, by rw [← pl.1 _ _ sx.2.2.1]; exact DGet.t (sw _ _ (su _ _ (s3 _ _ hd2))) upd_same, (by show 2 ≤ sizeLine; decide), fun y hy => ?_⟩
        have sy := same_new (o := HO.tup [V.int (p1 ws x : Nat), V.int (p2 ws x : Nat)]) hy
        exact kF _ (pD (prI (p1 ws x) (p2 ws x))) _ ((su.trans sw).trans sy) (by rw [ex]; rfl) (dat_prs (x := prI (p1 ws x) (p2 ws x)) upd_same)
      · rw [nvl, fm_some] at d3
        have d3' : Dats H3 us ((ns.map fun x => prI (p1 ws x) (p2 ws x)).map pD) := by rw [List.map_map]; exact d3
        have hD3 := s3 _ _ hv2
        have dv3 := Dats.keep s3.tups _ (imms_map _ imm_pD _) dv2
        have usl : us.length = ns.length := by rw [d3'.length, List.length_map, List.length_map]
        refine ⟨D, D2, _, _, rfl, rfl, hD3, e3, by rw [sizeLine_eq]; omega, ?_⟩
        have kD : Kp D H3 (upd H3 D (.lst (v2 ++ us))) := Kp.set
        have tD' := kD.tups hD3
        refine ⟨_, rfl, k D (((List.range ws.length).filterMap fun i => if 0 < cnt (ws.take i) (hnd ws i) then some (prI (prv ws i) i) else none) ++ ns.map fun x => prI (p1 ws x) (p2 ws x)) _ hD0 ⟨v2 ++ us, upd_same, ?_⟩ ?_ (fun x hx => ?_) (fun a b h => ?_) (fun b u e => kD _ _ (s3 _ _ (sm _ _ e)) (ne_of_none e hD0))⟩
        · rw [List.map_append]
          exact Dats.append (Dats.keep tD' _ (imms_map _ imm_pD _) dv3) (Dats.keep tD' _ (imms_map _ imm_pD _) d3')
        · rw [List.length_append, List.length_map]; omega
        · rcases List.mem_append.mp hx with z | z
          · obtain ⟨i, hi, e⟩ := List.mem_filterMap.mp z
            by_cases hp : 0 < cnt (ws.take i) (hnd ws i)
            · rw [if_pos hp] at e
              cases e
              exact ⟨_, _, rfl, prv_se ns (List.mem_range.mp hi) hp⟩
            · rw [if_neg hp] at e; cases e
          · obtain ⟨y, hy, rfl⟩ := List.mem_map.mp z
            exact ⟨_, _, rfl, .inr ⟨y, hy, str_at (st y hy)⟩⟩
        · rcases h with ⟨h1, h2, h3, h4⟩ | ⟨y, hy, hs⟩
          · obtain ⟨q1, rfl⟩ := se_prv h1 h2 h3 h4
            exact List.mem_append_left _ (List.mem_filterMap.mpr ⟨b, List.mem_range.mpr h2, if_pos q1⟩)
          · obtain ⟨rfl, rfl⟩ := str_uniq hs (str_at (st y hy))
            exact List.mem_append_right _ (List.mem_map.mpr ⟨y, hy, rfl⟩)

theorem get_nI {os : List Nat} {t : Nat} {p : Int} (e : (nI os)[t]? = some p) : ∃ q : Nat, os[t]? = some q ∧ p = (q : Int) := by
  unfold nI at e
  rw [List.getElem?_map] at e
  cases h : os[t]? with
  | none => rw [h] at e; cases e
  | some q => rw [h] at e; exact ⟨q, rfl, (Option.some.inj e).symm⟩

inductive RchE (ws : List Tch) (ns : List Nt) (j : Nat) : Nat → Prop
  | one {i : Nat} (h : SE ws ns i j) : RchE ws ns j i
  | more {i k : Nat} (h : SE ws ns i k) (r : RchE ws ns j k) : RchE ws ns j i
theorem rchE_last {ws : List Tch} {ns : List Nt} {j m : Nat} (r : RchE ws ns j m) : ∃ a, SE ws ns a j ∧ (m = a ∨ RchE ws ns a m) := by
  induction r with
  | one h => exact ⟨_, h, .inl rfl⟩
  | more h _ ih =>
    obtain ⟨a, s, q⟩ := ih
    refine ⟨a, s, .inr ?_⟩
    rcases q with rfl | q
    · exact .one h
    · exact .more h q
theorem rchE_snoc {ws : List Tch} {ns : List Nt} {a j m : Nat} (s : SE ws ns a j) (r : RchE ws ns a m) : RchE ws ns j m := by
  induction r with
  | one h => exact .more h (.one s)
  | more h _ ih => exact .more h ih
theorem cnt_step {ws : List Tch} {m j : Nat} (h : m < j) (hj : j ≤ ws.length) : cnt (ws.take m) (hnd ws m) + 1 ≤ cnt (ws.take j) (hnd ws m) := by
  have e : ws[m]? = some (ws[m]'(by omega)) := by simp
  have tk : ws.take (m + 1) = ws.take m ++ [ws[m]'(by omega)] := by rw [List.take_add_one, e]; rfl
  have := cnt_mono ws (hnd ws m) (m + 1) (j - (m + 1))
  rw [show m + 1 + (j - (m + 1)) = j by omega, tk, cnt_snoc, if_pos (hnd_of e)] at this
  exact this
theorem hand_rch {ws : List Tch} (ns : List Nt) : ∀ (j m : Nat), j < ws.length → m < j → hnd ws m = hnd ws j → RchE ws ns j m := fun j => by
  induction j using Nat.strongRecOn with
  | _ j ih =>
    intro m hj hm e
    have c1 := cnt_step (ws := ws) hm (by omega)
    rw [e] at c1
    have nn := cnt_nn (ws.take m) (hnd ws j)
    have hp : 0 < cnt (ws.take j) (hnd ws j) := by omega
    obtain ⟨a, a1, a2, a3⟩ := nm_prev ws (hnd ws j) j (by omega) hp
    have sa : SE ws ns a j := .inl ⟨a1, hj, a2, by rw [a2, a3]; omega⟩
    by_cases q : m = a
    · subst q; exact .one sa
    · by_cases l : m < a
      · exact rchE_snoc sa (ih a a1 m (by omega) l (e.trans a2.symm))
      · have c2 := cnt_step (ws := ws) (show a < m by omega) (by omega)
        rw [a2] at c2
        omega
def KnsE (H : Hp) (kn : Addr) (ws : List Tch) (ns : List Nt) (n : Nat) : Prop := ∃ rs : List Addr, H kn = some (.lst (rs.map V.ref)) ∧ rs.length = n ∧ ∀ j r, rs[j]? = some r → ∃ g, KdAt H r g ∧ KnP ws g fun m => m = j ∨ RchE ws ns j m
theorem KnsE.same {H H' : Hp} {kn : Addr} {ws : List Tch} {ns : List Nt} {n : Nat} (h : KnsE H kn ws ns n) (k : Same H H') : KnsE H' kn ws ns n := by
  obtain ⟨rs, e, l, q⟩ := h
  refine ⟨rs, k _ _ e, l, fun j r hj => ?_⟩
  obtain ⟨g, a, b⟩ := q j r hj
  exact ⟨g, a.same k, b⟩
/-- n lists of numbers, all of them apart -/
structure SrcAt (H : Hp) (S : Addr) (n : Nat) (f : Nat → List Nat) (rs : List Addr) : Prop where
  hS : H S = some (.lst (rs.map V.ref))
  len : rs.length = n
  nd : rs.Nodup
  ns : S ∉ rs
  li : ∀ b r, rs[b]? = some r → LI H r (nI (f b))
theorem SrcAt.same {H H' : Hp} {S : Addr} {n : Nat} {f : Nat → List Nat} {rs : List Addr} (h : SrcAt H S n f rs) (k : Same H H') : SrcAt H' S n f rs := ⟨k _ _ h.hS, h.len, h.nd, h.ns, fun b r e => k _ _ (h.li b r e)⟩
def srcF (es : List Prs) (k b : Nat) : List Nat := (es.take k).filterMap fun x => if x.2 = (b : Int) then some x.1.toNat else none
theorem knp_hand {ws : List Tch} {j : Nat} (hj : j < ws.length) : KnP ws (fun x => if x = hnd ws j then cnt (ws.take j) (hnd ws j) + 1 else 0) fun m => hnd ws m = hnd ws j ∧ m ≤ j := fun m x ex => by
  have hm : m < ws.length := (List.getElem?_eq_some_iff.mp ex).1
  have eh := hnd_of ex
  show cnt (ws.take m) x.1 < (if x.1 = hnd ws j then _ else 0) ↔ _
  by_cases e : x.1 = hnd ws j
  · rw [if_pos e, e]
    constructor
    · intro h
      refine ⟨eh.trans e, ?_⟩
      refine Decidable.byContradiction fun n => ?_
      have := cnt_step (ws := ws) (show j < m by omega) (by omega)
      omega
    · rintro ⟨_, l⟩
      have := cnt_mono ws (hnd ws j) m (j - m)
      rw [show m + (j - m) = j by omega] at this
      omega
  · rw [if_neg e]
    have := cnt_nn (ws.take m) x.1
    exact ⟨fun h => by omega, fun h => absurd (eh.symm.trans h.1) e⟩
def spKb (K : PySem.W.Frag) : Sp := fun vs H Q _ => ∃ (nd st : Addr) (ws : List Tch) (ns : List Nt) (es : List Prs), vs = [.ref nd, .ref st] ∧ PrsAt H nd (nm ws) ∧ PrsAt H st es ∧ es.length ≤ 95300 ∧ (∀ x ∈ es, ∃ a b, x = prI a b ∧ SE ws ns a b) ∧ (∀ a b, SE ws ns a b → prI a b ∈ es) ∧ ws.length ≤ 300 ∧ (∀ x ∈ ws, 0 ≤ x.1 ∧ x.1 < 8) ∧
  ∀ (r : Addr) H', H r = none → KnsE H' r ws ns ws.length → Same H H' → Q (.ref r) H'
theorem ok_kb {f : Addr} {fd : FuncData} (F : Fun K "knowns_by" "knowns_by" s_knowns_by f fd) (F_learn : FnAt P w K mg base 1 "learn" ["known", "more"] (spLearn K)) (Bt : Blt mg) : FnOk P w K mg base CX0 2 f fd ["named", "steps"] (spKb K) := by
  refine F.ok sc_knowns_by (fun vs H Q E h => ?_) (fun cdv A outer s H vs Q E hr h => ?_)
  · obtain ⟨nd, st, ws, ns, es, rfl, _⟩ := h
    rfl
  · obtain ⟨nd, st, ws, ns, es, rfl, N, Es, el, es1, es2, wl, okh, k⟩ := h
    have hu := hu_of hr
    refine ⟨_, (pss_cons (ps_setC (i := 2) rfl sc_knowns_by.nd rfl (Or.inl rfl) (N := ["name"]) (own := ["name"]) (caps := []) (CompScope.of (by kernel_rfl)) (pi_listK (K := K) rfl (pv 0)) (fun _ _ _ _ => (pg_name (i := 0) (show List.Nodup (["name"] : List Str) by decide +kernel) rfl (Or.inl rfl))) (fun _ _ _ _ => pts_nil) (fun _ _ _ _ => (pe_lst pa_nil)))
      (pss_cons (ps_for PassesOwn.never rfl (pi_listK (K := K) rfl (pv 1)) (pg_name (i := 3) sc_knowns_by.nd rfl (Or.inl rfl))
      (pss_one (ps_expr (pe_appendK (K := K) rfl (pe_ix (ix_listK (K := K) rfl) (pv 2) (pe_ix (ix_tupK (K := K) rfl) (pv 3) pe_int (fun _ _ => rfl)) (fun _ _ => rfl)) (pa_cons (pe_ix (ix_tupK (K := K) rfl) (pv 3) pe_int (fun _ _ => rfl)) pa_nil)))))
      (pss_cons (ps_set (i := 4) sc_knowns_by.nd rfl (Or.inl rfl) (pe_lst pa_nil))
      (pss_cons (ps_for PassesOwn.never rfl (pi_enumK (K := K) rfl (by rfl) Bt.b_enumerate (pa_cons (pv 0) pa_nil)) (pg_tupK (K := K) (n := 2) rfl rfl (pgs_cons (pg_name (i := 5) sc_knowns_by.nd rfl (Or.inl rfl)) (pgs_cons (pg_name (i := 6) sc_knowns_by.nd rfl (Or.inl rfl)) pgs_nil)))
      (pss_cons (ps_set (i := 7) sc_knowns_by.nd rfl (Or.inl rfl) (pe_disp (pps_cons (pe_ix (ix_tupK (K := K) rfl) (pv 6) pe_int (fun _ _ => rfl)) (pe_op op_add (pe_ix (ix_tupK (K := K) rfl) (pv 6) pe_int (fun _ _ => rfl)) pe_int) pps_nil) rfl rfl (by simp) (by decide)))
      (pss_cons (ps_for PassesOwn.never rfl (pi_listK (K := K) rfl (pe_ix (ix_listK (K := K) rfl) (pv 2) (pv 5) (fun _ _ => rfl))) (pg_name (i := 8) sc_knowns_by.nd rfl (Or.inl rfl))
      (pss_one (ps_expr (pe_fn F_learn (hr.mono (by decide)) (by rfl) (pa_cons (pv 7) (pa_cons (pe_ix (ix_listK (K := K) rfl) (pv 4) (pv 8) (fun _ _ => rfl)) pa_nil))))))
      (pss_one (ps_expr (pe_appendK (K := K) rfl (pv 4) (pa_cons (pv 7) pa_nil)))))))
      (pss_one (ps_ret (pv 4))))))), ?_⟩
    obtain ⟨nv, hnv, dnv⟩ := id N
    have nvl : nv.length = ws.length := by rw [dnv.length, List.length_map, nm_length]
    -- sources
    refine ⟨_, rfl, nd, rfl, ⟨_, SqL.of hnv⟩, fun S hS => ?_⟩
    refine comp_list (K := K) (a := nd) (xs := nv) (fun i σ H2 => (∃ v, σ = [v]) ∧ ∃ rs : List Addr, rs.length = i ∧ rs.Nodup ∧ H2 S = some (.lst (rs.map V.ref)) ∧ (∀ r ∈ rs, r ≠ S ∧ H r = none ∧ LI H2 r []) ∧ Same H H2)
      ⟨⟨none, rfl⟩, [], rfl, List.nodup_nil, upd_same, by simp, same_new hS⟩ (fun i σ H2 _ ⟨_, _, _, _, _, _, sm⟩ => SqL.of (sm _ _ hnv)) ?_ (fun σ H2 h2 => ?_)
    · rintro i v σ H2 hi ⟨⟨v0, rfl⟩, rs, rl, rnd, hS2, all, sm⟩
      have il : i < nv.length := (List.getElem?_eq_some_iff.mp hi).1
      refine ⟨(by show 0 ≤ sizeLine; decide), fun q hq => ?_⟩
      have sq := same_new (o := HO.lst []) hq
      have nqS : q ≠ S := (ne_of_none hS2 hq).symm
      have kS : Kp S (upd H2 q (.lst [])) (upd (upd H2 q (.lst [])) S (.lst (rs.map V.ref ++ [V.ref q]))) := Kp.set
      refine ⟨_, sq _ _ hS2, by rw [List.length_map, sizeLine_eq]; omega, ⟨_, rfl⟩, rs ++ [q], by simp [rl], ?_, by rw [upd_same]; simp, fun r hr' => ?_, fun b o e => kS _ _ (sq _ _ (sm _ _ e)) (ne_of_none e hS)⟩
      · rw [List.nodup_append]
        refine ⟨rnd, by simp, fun a ha b hb e => ?_⟩
        simp at hb
        subst hb; subst e
        have := (all a ha).2.2
        rw [show H2 a = _ from this] at hq
        cases hq
      · rcases List.mem_append.mp hr' with z | z
        · obtain ⟨q1, q2, q3⟩ := all r z
          exact ⟨q1, q2, kS _ _ (sq _ _ q3) q1⟩
        · simp at z
          subst z
          exact ⟨nqS, sm.free hq, kS _ _ upd_same nqS⟩
    obtain ⟨_, rs, rl, rnd, hS2, all, sm2⟩ := h2
    have src0 : SrcAt H2 S ws.length (srcF es 0) rs := ⟨hS2, by rw [rl, nvl], rnd, fun z => (all S z).1 rfl, fun b r e => (all r (List.mem_of_getElem? e)).2.2⟩
    have rnew : ∀ r ∈ rs, H r = none := fun r hr' => (all r hr').2.1
    obtain ⟨ev, hev, dev⟩ := id (Es.same sm2)
    have evl : ev.length = es.length := by rw [dev.length, List.length_map]
    have evOld : H st = some (.lst ev) := by
      obtain ⟨ev0, h0, _⟩ := Es
      have := (sm2 _ _ h0).symm.trans hev
      rw [h0, ← Option.some.inj this]
    -- for step in steps
    dsimp only
    refine seq_cps (fun σ H3 => ∃ (x3 : Option V), σ = [some (.ref nd), some (.ref st), some (.ref S), x3, none, none, none, none, none] ∧ Same H H3 ∧ SrcAt H3 S ws.length (srcF es es.length) rs) (fun D' hD' _ => ?_) ?_
    · refine ⟨_, rfl, st, rfl, ⟨_, SqL.of hev⟩, ?_⟩
      refine for_list (K := K) (a := st) (xs := ev) (fun q σ H3 => ∃ (x3 : Option V), σ = [some (.ref nd), some (.ref st), some (.ref S), x3, none, none, none, none, none] ∧ Same H H3 ∧ SrcAt H3 S ws.length (srcF es q) rs)
        ⟨none, rfl, sm2, src0⟩ (fun q σ H3 _ ⟨_, _, sm, _⟩ => SqL.of (sm _ _ evOld)) ?_ ?_
      · rintro q v σ H3 hq ⟨x3, rfl, sm3, src⟩
        have d3 : Dats H3 ev (es.map pD) := by
          obtain ⟨ev0, h0, d0⟩ := Es
          rw [evOld] at h0
          cases h0
          exact Dats.keep sm3.tups _ (imms_map _ imm_pD _) d0
        obtain ⟨y, ty, ey, rfl, hty⟩ := prs_get d3 hq
        obtain ⟨a, b, rfl, se⟩ := es1 y (List.mem_of_getElem? ey)
        replace hty : H3 ty = some (.tup [.int (a : Int), .int (b : Int)]) := hty
        have sl := se.lt
        have ql : q < es.length := (List.getElem?_eq_some_iff.mp ey).1
        obtain ⟨r, er⟩ : ∃ r, rs[b]? = some r := ⟨rs[b]'(by rw [src.len]; exact sl.2), by simp⟩
        have hr' := src.li b r er
        have lsrc : (srcF es q b).length ≤ q := by
          unfold srcF
          refine Nat.le_trans (List.length_filterMap_le _ _) ?_
          rw [List.length_take]; omega
        refine ⟨_, rfl, _, rfl, _, _, _, _, rfl, rfl, SqT.of hty, rfl, _, _, _, _, rfl, rfl, SqL.of src.hS, atI_nat (by rw [List.getElem?_map, er]; rfl), ?_⟩
        refine ⟨.inl ⟨rfl, _, SqL.of hr'⟩, _, rfl, _, _, _, _, rfl, rfl, SqT.of hty, rfl, r, _, _, rfl, rfl, hr', by rw [List.length_map, nI_len, sizeLine_eq]; omega, ?_⟩
        have kr : Kp r H3 (upd H3 r (.lst ((nI (srcF es q b)).map V.int ++ [V.int (a : Int)]))) := Kp.set
        have hr0 := rnew r (List.mem_of_getElem? er)
        have nSr : S ≠ r := fun z => src.ns (by rw [z]; exact List.mem_of_getElem? er)
        have sf : ∀ b', srcF es (q + 1) b' = srcF es q b' ++ (if (b : Int) = (b' : Int) then [a] else []) := fun b' => by
          unfold srcF
          rw [List.take_add_one, ey, Option.toList_some, List.filterMap_append]
          congr 1
          by_cases z : (b : Int) = (b' : Int) <;> simp [prI, z]
        refine ⟨_, rfl, fun c o e => kr _ _ (sm3 _ _ e) (ne_of_none e hr0), kr _ _ src.hS nSr, src.len, src.nd, src.ns, fun b' r' er' => ?_⟩
        by_cases eb : b' = b
        · subst eb
          rw [er] at er'
          cases er'
          show upd _ _ _ _ = _
          rw [upd_same, sf, if_pos rfl]
          simp [nI]
        · have nrr : r' ≠ r := fun z => by
            subst z
            obtain ⟨h1, e1⟩ := List.getElem?_eq_some_iff.mp er
            obtain ⟨h2, e2⟩ := List.getElem?_eq_some_iff.mp er'
            rcases Nat.lt_or_gt_of_ne eb with l | l
            · exact List.pairwise_iff_getElem.mp src.nd b' b h2 h1 l (e2.trans e1.symm)
            · exact List.pairwise_iff_getElem.mp src.nd b b' h1 h2 l (e1.trans e2.symm)
          rw [sf, if_neg (by omega), List.append_nil]
          exact kr _ _ (src.li b' r' er') nrr
      · rintro σ H3 ⟨x3, rfl, sm3, src⟩
        rw [evl] at src
        exact hD' _ _ ⟨x3, rfl, sm3, src⟩
    · rintro σ H3 ⟨x3, rfl, sm3, src⟩
      have srcM : ∀ a j, a ∈ srcF es es.length j ↔ SE ws ns a j := fun a j => by
        unfold srcF
        rw [List.take_length, List.mem_filterMap]
        constructor
        · rintro ⟨x, hx, e⟩
          obtain ⟨a', b', rfl, se⟩ := es1 x hx
          by_cases z : (prI a' b').2 = (j : Int)
          · rw [if_pos z] at e
            have z : (b' : Int) = (j : Int) := z
            have e : a' = a := by have := Option.some.inj e; simpa [prI] using this
            have z : b' = j := by omega
            subst e z
            exact se
          · rw [if_neg z] at e; cases e
        · intro se
          exact ⟨prI a j, es2 a j se, by rw [if_pos (show (prI a j).2 = (j : Int) from rfl)]; rfl⟩
      -- knowns = []
      refine ⟨(by show 0 ≤ sizeLine; decide), fun kn hkn => ?_⟩
      have s4 := same_new (o := HO.lst []) hkn
      have sm4 := sm3.trans s4
      have hkn0 : H kn = none := sm3.free hkn
      have src4 := src.same s4
      refine ⟨_, rfl, nd, _, rfl, SqL.of (sm4 _ _ hnv), ?_⟩
      refine for_enum (K := K) (a := nd) (xs := nv) (fun j σ H5 => ∃ (x5 x6 x7 x8 : Option V), σ = [some (.ref nd), some (.ref st), some (.ref S), x3, some (.ref kn), x5, x6, x7, x8] ∧ Same H H5 ∧ KnsE H5 kn ws ns j ∧ SrcAt H5 S ws.length (srcF es es.length) rs ∧ kn ∉ rs ∧ kn ≠ S)
        ⟨none, none, none, none, rfl, sm4, ⟨[], upd_same, rfl, fun j r h => by simp at h⟩, src4, (fun z => by
          obtain ⟨b, hb⟩ := List.getElem?_of_mem z
          have := src.li b kn hb
          rw [show H3 kn = _ from this] at hkn
          cases hkn), (ne_of_none src.hS hkn).symm⟩ (fun j σ H5 _ ⟨_, _, _, _, _, sm, _⟩ => SqL.of (sm _ _ hnv)) ?_ ?_
      · rintro j v σ H5 p hj ⟨x5, x6, x7, x8, rfl, sm5, KN, src5, nkr, nkS⟩ hp
        have jl : j < ws.length := by have := (List.getElem?_eq_some_iff.mp hj).1; omega
        have dn5 : Dats H5 nv ((nm ws).map pD) := Dats.keep sm5.tups _ (imms_map _ imm_pD _) dnv
        obtain ⟨y, ty, ey, rfl, hty⟩ := prs_get dn5 hj
        obtain ⟨_, rfl⟩ := nm_at' ey
        replace hty : H5 ty = some (.tup [.int (hnd ws j), .int (cnt (ws.take j) (hnd ws j))]) := hty
        have sp := same_new (o := HO.tup [V.int (j : Int), V.ref ty]) hp
        refine ⟨p, _, rfl, SqT.of upd_same, rfl, _, _, rfl, _, _, rfl, rfl, ?_⟩
        have hty6 := sp _ _ hty
        have KN6 := KN.same sp
        have src6 := src5.same sp
        have sm6 := sm5.trans sp
        generalize upd H5 p (.tup [V.int (j : Int), V.ref ty]) = H6 at hty6 KN6 src6 sm6 ⊢
        -- known = {name[0]: name[1] + 1}
        intro d hd
        have s7 := same_new (o := HO.dK []) hd
        refine ⟨_, rfl, _, _, _, _, rfl, rfl, SqT.of (s7 _ _ hty6), rfl, _, rfl, _, _, _, _, rfl, rfl, SqT.of (s7 _ _ hty6), rfl, _, _, rfl, rfl, upd_same, [(Sum.inl (hnd ws j), V.int (cnt (ws.take j) (hnd ws j) + 1))], rfl, by show 1 ≤ 15; decide, ?_⟩
        have e1 : upd (upd H6 d (.dK [])) d (.dK (mergeK [] [(Sum.inl (hnd ws j), V.int (cnt (ws.take j) (hnd ws j) + 1))])) = upd H6 d (.dK (kvG [hnd ws j] fun x => if x = hnd ws j then cnt (ws.take j) (hnd ws j) + 1 else 0)) := by
          rw [upd_upd]
          congr 2
          show [(Sum.inl (hnd ws j), V.int (cnt (ws.take j) (hnd ws j) + 1))] = _
          simp [kvG]
        rw [e1]
        have s8 : Same H6 (upd H6 d (.dK (kvG [hnd ws j] fun x => if x = hnd ws j then cnt (ws.take j) (hnd ws j) + 1 else 0))) := same_new hd
        have ey' : ws[j]? = some ws[j] := by simp [jl]
        have h08 : 0 ≤ hnd ws j ∧ hnd ws j < 8 := by rw [hnd_of ey']; exact okh _ (List.mem_of_getElem? ey')
        have kd0 : KdAt (upd H6 d (.dK (kvG [hnd ws j] fun x => if x = hnd ws j then cnt (ws.take j) (hnd ws j) + 1 else 0))) d (fun x => if x = hnd ws j then cnt (ws.take j) (hnd ws j) + 1 else 0) := by
          refine ⟨⟨[hnd ws j], upd_same, by simp, fun h hh => ?_, fun h hh => ?_⟩, fun h => ?_⟩
          · have : h = hnd ws j := by simpa using hh
            subst this; exact h08
          · have : h ≠ hnd ws j := by simpa using hh
            rw [if_neg this]
          · have := cnt_nn (ws.take j) (hnd ws j)
            show 0 ≤ if h = hnd ws j then _ else _
            split <;> omega
        have hd0 : H d = none := sm6.free hd
        have KN8 := KN6.same s8
        have src8 := src6.same s8
        have sm8 := sm6.trans s8
        have ndkn : d ≠ kn := by obtain ⟨rs', h', _⟩ := KN6; exact (ne_of_none h' hd).symm
        have ndS : d ≠ S := (ne_of_none src6.hS hd).symm
        have ndr : ∀ r ∈ rs, r ≠ d := fun r hr' => by
          obtain ⟨b, hb⟩ := List.getElem?_of_mem hr'
          exact ne_of_none (src6.li b r hb) hd
        obtain ⟨ks, hks, ksl, kq⟩ := id KN6
        have ndk : ∀ (i : Nat) (r : Addr), ks[i]? = some r → d ≠ r := fun i r hi => by
          obtain ⟨g, kd, _⟩ := kq i r hi
          obtain ⟨_, h', _⟩ := kd.ex
          exact (ne_of_none h' hd).symm
        generalize upd H6 d (.dK (kvG [hnd ws j] fun x => if x = hnd ws j then cnt (ws.take j) (hnd ws j) + 1 else 0)) = H8 at kd0 s8 KN8 src8 sm8 ⊢
        clear s7 e1
        -- for source in sources[place]
        obtain ⟨r, er⟩ : ∃ r, rs[j]? = some r := ⟨rs[j]'(by rw [src8.len]; exact jl), by simp⟩
        have hr8 := src8.li j r er
        have nrd := ndr r (List.mem_of_getElem? er)
        dsimp only
        refine seq_cps (fun σ H9 => ∃ (x8 : Option V) (g : Int → Int), σ = [some (.ref nd), some (.ref st), some (.ref S), x3, some (.ref kn), some (.int (j : Int)), some (.ref ty), some (.ref d), x8] ∧ Kp d H8 H9 ∧ KdAt H9 d g ∧ KnP ws g fun m => m = j ∨ RchE ws ns j m) (fun D' hD' _ => ?_) ?_
        · refine ⟨_, rfl, _, rfl, _, _, _, _, rfl, rfl, SqL.of src8.hS, atI_nat (by rw [List.getElem?_map, er]; rfl), r, rfl, ⟨_, SqL.of hr8⟩, ?_⟩
          refine for_list (K := K) (a := r) (xs := (nI (srcF es es.length j)).map V.int) (fun q σ H9 => ∃ (x8 : Option V) (g : Int → Int), σ = [some (.ref nd), some (.ref st), some (.ref S), x3, some (.ref kn), some (.int (j : Int)), some (.ref ty), some (.ref d), x8] ∧ Kp d H8 H9 ∧ KdAt H9 d g ∧ KnP ws g fun m => (hnd ws m = hnd ws j ∧ m ≤ j) ∨ ∃ a ∈ (srcF es es.length j).take q, m = a ∨ RchE ws ns a m)
            ⟨_, _, rfl, Kp.refl _ _, kd0, (knp_hand jl).iff fun m => by simp⟩ (fun q σ H9 _ ⟨_, _, _, kp, _⟩ => SqL.of (kp _ _ hr8 nrd)) ?_ ?_
          · rintro q v σ H9 hq ⟨y8, g, rfl, kp9, kd9, kn9⟩
            rw [List.getElem?_map] at hq
            cases ea : (nI (srcF es es.length j))[q]? with
            | none => rw [ea] at hq; cases hq
            | some z =>
              rw [ea] at hq
              cases hq
              obtain ⟨a, ea', rfl⟩ := get_nI ea
              have se : SE ws ns a j := (srcM a j).mp (List.mem_of_getElem? ea')
              have al : a < ks.length := by rw [ksl]; exact se.lt.1
              obtain ⟨u, eu⟩ : ∃ u, ks[a]? = some u := ⟨ks[a], by simp [al]⟩
              obtain ⟨ga, kda, kna⟩ := kq a u eu
              have ndu := ndk a u eu
              have hk9 := kp9 _ _ (s8 _ _ hks) ndkn.symm
              have kda9 := (kda.same s8).kp kp9 ndu.symm
              refine ⟨_, rfl, _, rfl, _, rfl, _, _, _, _, rfl, rfl, SqL.of hk9, atI_nat (by rw [List.getElem?_map, eu]; rfl), d, u, g, ga, rfl, kd9, kda9, ndu, fun HA kdA kA => ?_⟩
              refine ⟨_, _, rfl, kp9.trans kA, kdA, (knp_max kn9 kna).iff fun m => ?_⟩
              have tk : (srcF es es.length j).take (q + 1) = (srcF es es.length j).take q ++ [a] := by rw [List.take_add_one, ea']; rfl
              rw [tk]
              constructor
              · rintro ((h | ⟨a', h1, h2⟩) | h)
                · exact .inl h
                · exact .inr ⟨a', List.mem_append_left _ h1, h2⟩
                · exact .inr ⟨a, by simp, h⟩
              · rintro (h | ⟨a', h1, h2⟩)
                · exact .inl (.inl h)
                · rcases List.mem_append.mp h1 with z | z
                  · exact .inl (.inr ⟨a', z, h2⟩)
                  · simp at z; subst z; exact .inr h2
          · rintro σ H9 ⟨y8, g, rfl, kp9, kd9, kn9⟩
            have e : (srcF es es.length j).take ((nI (srcF es es.length j)).map V.int).length = srcF es es.length j := by rw [List.length_map, nI_len, List.take_length]
            rw [e] at kn9
            refine hD' _ _ ⟨y8, g, rfl, kp9, kd9, kn9.iff fun m => ?_⟩
            constructor
            · rintro (⟨h1, h2⟩ | ⟨a, h1, h2⟩)
              · by_cases q : m = j
                · exact .inl q
                · exact .inr (hand_rch ns j m jl (by omega) h1)
              · have se := (srcM a j).mp h1
                rcases h2 with rfl | h2
                · exact .inr (.one se)
                · exact .inr (rchE_snoc se h2)
            · rintro (rfl | h)
              · exact .inl ⟨rfl, Nat.le_refl _⟩
              · obtain ⟨a, se, q⟩ := rchE_last h
                exact .inr ⟨a, (srcM a j).mpr se, q⟩
        · rintro σ H9 ⟨y8, g, rfl, kp9, kd9, kn9⟩
          have hk9 := kp9 _ _ (s8 _ _ hks) ndkn.symm
          refine ⟨_, rfl, .inl ⟨rfl, _, SqL.of hk9⟩, _, rfl, kn, _, _, rfl, rfl, hk9, by rw [List.length_map, sizeLine_eq]; omega, ?_⟩
          have kK : Kp kn H9 (upd H9 kn (.lst (ks.map V.ref ++ [V.ref d]))) := Kp.set
          have smZ : Same H (upd H9 kn (.lst (ks.map V.ref ++ [V.ref d]))) := fun b o e => kK _ _ (kp9 _ _ (sm8 _ _ e) (ne_of_none e hd0)) (ne_of_none e hkn0)
          refine ⟨_, _, _, _, rfl, smZ, ⟨ks ++ [d], by rw [upd_same]; simp, by simp [ksl], fun i u hu' => ?_⟩, ⟨kK _ _ (kp9 _ _ src8.hS ndS.symm) nkS.symm, src8.len, src8.nd, src8.ns, fun b r' er' => kK _ _ (kp9 _ _ (src8.li b r' er') (ndr r' (List.mem_of_getElem? er'))) (fun z => nkr (by rw [← z]; exact List.mem_of_getElem? er'))⟩, nkr, nkS⟩
          by_cases il : i < ks.length
          · rw [List.getElem?_append_left il] at hu'
            obtain ⟨ga, kda, kna⟩ := kq i u hu'
            have kda9 := (kda.same s8).kp kp9 (ndk i u hu').symm
            obtain ⟨_, h', _⟩ := kda9.ex
            exact ⟨ga, kda9.kp kK (ne_of h' hk9 (by intro z; cases z)), kna⟩
          · rw [List.getElem?_append_right (by omega)] at hu'
            have : i - ks.length < 1 := (List.getElem?_eq_some_iff.mp hu').1
            have hi : i = j := by omega
            subst hi
            rw [ksl, Nat.sub_self] at hu'
            cases hu'
            exact ⟨g, kd9.kp kK ndkn, kn9⟩
      · rintro σ H5 ⟨x5, x6, x7, x8, rfl, sm5, KN, src5, nkr, nkS⟩
        rw [nvl] at KN
        exact ⟨_, rfl, k kn H5 hkn0 KN sm5⟩

/-- each two touches that meet are led from one to the other -/
def EnP (ws : List Tch) (ns : List Nt) : Prop := ∀ (i j : Nat) (x y : Tch), i < j → ws[i]? = some x → ws[j]? = some y → mt x y = true → RchE ws ns j i
def spEn (K : PySem.W.Frag) : Sp := fun vs H Q _ => ∃ (a s : Addr) (ws : List Tch) (ns : List Nt), vs = [.ref a, .ref s] ∧ WebAt H a ws ∧ ws.length ≤ 300 ∧ (∀ x ∈ ws, 0 ≤ x.1 ∧ x.1 < 8) ∧ NtsAt H s ns ∧ ns.length ≤ 95000 ∧ (∀ x ∈ ns, StrP ws x) ∧
  ∀ (b : Bool) H', (b = true ↔ EnP ws ns) → Same H H' → Q (.bl b) H'
theorem ok_en {f : Addr} {fd : FuncData} (F : Fun K "enough" "enough" s_enough f fd) (F_places_of : FnAt P w K mg base 2 "places_of" ["web"] (spPlaces K)) (F_check_strict : FnAt P w K mg base 4 "check_strict" ["places", "some"] (spCSn K)) (F_names : FnAt P w K mg base 1 "names" ["web"] (spNames K)) (F_steps_by : FnAt P w K mg base 1 "steps_by" ["places", "some"] (spSb K)) (F_knowns_by : FnAt P w K mg base 2 "knowns_by" ["named", "steps"] (spKb K)) (F_touches_meet : FnAt P w K mg base 1 "touches_meet" ["one", "other"] (spMt K)) (F_is_known : FnAt P w K mg base 1 "is_known" ["name", "known"] (spKnown K)) (Bt : Blt mg) : FnOk P w K mg base CX0 5 f fd ["web", "some"] (spEn K) := by
  refine F.ok sc_enough (fun vs H Q E h => ?_) (fun cdv A outer s H vs Q E hr h => ?_)
  · obtain ⟨a, s, ws, ns, rfl, _⟩ := h
    rfl
  · obtain ⟨a, sa, ws, ns, rfl, W, wl, okh, N, nl, st, k⟩ := h
    have hu := hu_of hr
    refine ⟨_, (pss_cons (ps_set (i := 2) sc_enough.nd rfl (Or.inl rfl) (pe_fn F_places_of (hr.mono (by decide)) (by rfl) (pa_cons (pv 0) pa_nil)))
      (pss_cons (ps_expr (pe_fn F_check_strict (hr.mono (by decide)) (by rfl) (pa_cons (pv 2) (pa_cons (pv 1) pa_nil))))
      (pss_cons (ps_set (i := 3) sc_enough.nd rfl (Or.inl rfl) (pe_fn F_names (hr.mono (by decide)) (by rfl) (pa_cons (pv 0) pa_nil)))
      (pss_cons (ps_set (i := 4) sc_enough.nd rfl (Or.inl rfl) (pe_fn F_knowns_by (hr.mono (by decide)) (by rfl) (pa_cons (pv 3) (pa_cons (pe_fn F_steps_by (hr.mono (by decide)) (by rfl) (pa_cons (pv 2) (pa_cons (pv 1) pa_nil))) pa_nil))))
      (pss_cons (ps_for PassesOwn.never rfl (pi_enumK (K := K) rfl (by rfl) Bt.b_enumerate (pa_cons (pv 4) pa_nil)) (pg_tupK (K := K) (n := 2) rfl rfl (pgs_cons (pg_name (i := 5) sc_enough.nd rfl (Or.inl rfl)) (pgs_cons (pg_name (i := 6) sc_enough.nd rfl (Or.inl rfl)) pgs_nil)))
      (pss_one (ps_for PassesOwn.never rfl (pi_range1 (by rfl) Bt.b_range (pa_cons (pv 5) pa_nil)) (pg_name (i := 7) sc_enough.nd rfl (Or.inl rfl))
      (pss_one (ps_if (PW.pt (pw_and (pt_val (pe_fn F_touches_meet (hr.mono (by decide)) (by rfl) (pa_cons (pe_ix (ix_listK (K := K) rfl) (pv 0) (pv 7) (fun _ _ => rfl)) (pa_cons (pe_ix (ix_listK (K := K) rfl) (pv 0) (pv 5) (fun _ _ => rfl)) pa_nil)))) (pw_and1 (pt_not (pt_val (pe_fn F_is_known (hr.mono (by decide)) (by rfl) (pa_cons (pe_ix (ix_listK (K := K) rfl) (pv 3) (pv 7) (fun _ _ => rfl)) (pa_cons (pv 6) pa_nil)))))))) (pss_one (ps_ret pe_bl)) pss_nil)))))
      (pss_one (ps_ret pe_bl))))))), ?_⟩
    refine ⟨_, rfl, a, ws, rfl, W, wl, fun d kvs H1 _ h1 pl ek s1 => ?_⟩
    refine ⟨_, rfl, _, rfl, d, sa, kvs, ws, ns, rfl, h1, pl, N.same s1, by omega, st, fun H2 s2 => ?_⟩
    have s12 := s1.trans s2
    refine ⟨_, rfl, a, ws, rfl, W.same s12, by omega, fun nd H3 _ ND s3 => ?_⟩
    have s13 := s12.trans s3
    refine ⟨_, rfl, _, rfl, _, rfl, d, sa, kvs, ws, ns, rfl, s3 _ _ (s2 _ _ h1), ek, pl, wl, N.same s13, nl, st, fun e es H4 _ Es el es1 es2 s4 => ?_⟩
    refine ⟨nd, e, ws, ns, es, rfl, ND.same s4, Es, el, es1, es2, wl, okh, fun kn H5 _ KN s5 => ?_⟩
    have s15 := (s13.trans s4).trans s5
    have ND5 := (ND.same s4).same s5
    obtain ⟨ks, hks, ksl, kq⟩ := id KN
    refine ⟨_, rfl, kn, _, rfl, SqL.of hks, ?_⟩
    refine for_enum (K := K) (a := kn) (xs := ks.map V.ref) (fun j σ H6 => ∃ (x5 x6 x7 : Option V), σ = [some (.ref a), some (.ref sa), some (.ref d), some (.ref nd), some (.ref kn), x5, x6, x7] ∧ Same H5 H6 ∧ ∀ (i j' : Nat) (x y : Tch), j' < j → i < j' → ws[i]? = some x → ws[j']? = some y → mt x y = true → RchE ws ns j' i)
      ⟨none, none, none, rfl, Same.refl _, fun i j' x y h => absurd h (Nat.not_lt_zero _)⟩ (fun j σ H6 _ ⟨_, _, _, _, sm, _⟩ => SqL.of (sm _ _ hks)) ?_ ?_
    · rintro j v σ H6 p hj ⟨x5, x6, x7, rfl, sm6, inv⟩ hp
      rw [List.getElem?_map] at hj
      cases eu : ks[j]? with
      | none => rw [eu] at hj; cases hj
      | some u =>
      rw [eu] at hj
      cases hj
      have jl : j < ws.length := by rw [← ksl]; exact (List.getElem?_eq_some_iff.mp eu).1
      obtain ⟨g, kd, knp⟩ := kq j u eu
      have sp := same_new (o := HO.tup [V.int (j : Int), V.ref u]) hp
      refine ⟨p, _, rfl, SqT.of upd_same, rfl, _, _, rfl, _, _, rfl, rfl, ?_⟩
      have sm7 := sm6.trans sp
      generalize upd H6 p (.tup [V.int (j : Int), V.ref u]) = H7 at sm7 ⊢
      refine ⟨_, rfl, _, rfl, by omega, by omega, ?_⟩
      refine for_range (lo := 0) (n := _) (fun i σ H8 => ∃ (x7 : Option V), σ = [some (.ref a), some (.ref sa), some (.ref d), some (.ref nd), some (.ref kn), some (.int (j : Int)), some (.ref u), x7] ∧ Same H5 H8 ∧ ∀ (i' : Nat) (x y : Tch), i' < i → ws[i']? = some x → ws[j]? = some y → mt x y = true → RchE ws ns j i')
        ⟨_, rfl, sm7, fun i' x y h => absurd h (Nat.not_lt_zero _)⟩ ?_ ?_
      · rintro i σ H8 hi ⟨y7, rfl, sm8, inv8⟩
        have hi : i < j := by omega
        have il : i < ws.length := by omega
        obtain ⟨x, ex⟩ : ∃ x, ws[i]? = some x := ⟨ws[i], by simp [il]⟩
        obtain ⟨y, ey⟩ : ∃ y, ws[j]? = some y := ⟨ws[j], by simp [jl]⟩
        obtain ⟨vs, t1, ha, e1, ht1⟩ := web_get (W.same (s15.trans sm8)) ex
        obtain ⟨vs', t2, ha', e2, ht2⟩ := web_get (W.same (s15.trans sm8)) ey
        have ev : vs = vs' := by rw [ha] at ha'; injection ha' with q; injection q
        subst ev
        rw [Int.zero_add]
        refine ⟨_, rfl, _, rfl, _, _, _, _, rfl, rfl, SqL.of ha, atI_ref e1, _, rfl, _, rfl, _, _, _, _, rfl, rfl, SqL.of ha, atI_ref e2, t1, t2, x, y, rfl, ht1, ht2, _, rfl, ?_⟩
        cases em : mt x y with
        | false =>
          refine (show if false = true then _ else _ from iteF ?_)
          refine ⟨_, rfl, sm8, fun i' x' y' hi' ex' ey' m' => ?_⟩
          by_cases z : i' = i
          · subst z
            rw [ex] at ex'; rw [ey] at ey'
            cases ex'; cases ey'
            rw [em] at m'; cases m'
          · exact inv8 i' x' y' (by omega) ex' ey' m'
        | true =>
          refine (show if true = true then _ else _ from iteT ?_)
          obtain ⟨nv, hnv, dnv⟩ := id (ND5.same sm8)
          have nil : i < nv.length := by rw [dnv.length, List.length_map, nm_length]; exact il
          obtain ⟨vn, evn⟩ : ∃ vn, nv[i]? = some vn := ⟨nv[i], by simp [nil]⟩
          obtain ⟨yy, ty, ey2, rfl, hty⟩ := prs_get dnv evn
          obtain ⟨_, rfl⟩ := nm_at' ey2
          have kn := knp i x ex
          rw [← hnd_of ex] at kn
          refine ⟨_, rfl, _, rfl, _, _, _, _, rfl, rfl, SqL.of hnv, atI_ref evn, _, rfl, ty, u, _, _, g, rfl, hty, kd.same sm8, _, rfl, ?_⟩
          by_cases q : cnt (ws.take i) (hnd ws i) < g (hnd ws i)
          · rw [decide_eq_true q]
            refine (show if false = true then _ else _ from iteF ?_)
            refine ⟨_, rfl, sm8, fun i' x' y' hi' ex' ey' m' => ?_⟩
            by_cases z : i' = i
            · subst z
              exact (kn.mp q).resolve_left (by omega)
            · exact inv8 i' x' y' (by omega) ex' ey' m'
          · rw [decide_eq_false q]
            refine (show if true = true then _ else _ from iteT ?_)
            refine k false _ ⟨fun z => Bool.noConfusion z, fun z => absurd (kn.mpr (.inr (z i j x y hi ex ey em))) q⟩ (s15.trans sm8)
      · rintro σ H8 ⟨y7, rfl, sm8, inv8⟩
        refine ⟨_, _, _, rfl, sm8, fun i j' x y hj' hij ex ey m => ?_⟩
        by_cases z : j' = j
        · subst z
          exact inv8 i x y (by omega) ex ey m
        · exact inv i j' x y (by omega) hij ex ey m
    · rintro σ H6 ⟨x5, x6, x7, rfl, sm6, inv⟩
      refine k true _ ⟨fun _ => fun i j x y hij ex ey m => ?_, fun _ => rfl⟩ (s15.trans sm6)
      have jl := (List.getElem?_eq_some_iff.mp ey).1
      exact inv i j x y (by rw [List.length_map, ksl]; exact jl) hij ex ey m

theorem prs_refs {H : Hp} : ∀ {vs : List V} {ps : List Prs}, Dats H vs (ps.map pD) → ∃ as : List Addr, vs = as.map V.ref
  | [], [], _ => ⟨[], rfl⟩
  | v :: vs, x :: ps, h => by
    simp only [List.map_cons, Dats] at h
    obtain ⟨t, rfl, _⟩ := dat_prs_inv h.1
    obtain ⟨as, rfl⟩ := prs_refs h.2
    exact ⟨t :: as, rfl⟩
  | [], _ :: _, h => by simp only [List.map_cons, Dats] at h
  | _ :: _, [], h => by simp only [List.map_nil, Dats] at h
theorem shaped_pD (x : Prs) : SeqAt.shaped (pD x) = true := rfl
theorem shaped_pDs {ps : List Prs} : ∀ e ∈ ps.map pD, SeqAt.shaped e = true := fun e he => by
  obtain ⟨y, _, rfl⟩ := List.mem_map.mp he
  exact shaped_pD y
section
variable {K : PySem.W.Frag} {a D : Addr} {xs : List V} {tc : TT} {te : TE} {Q : VK} {rest : St} {H1 : Hp}
/-- over a list of pairs, taken apart; what is told is flat -/
theorem comp_valP (f : Nat → Option V) (hD : H1 D = none) (hq : H1 a = some (.lst xs)) (hx : xs.length ≤ 100000) (hp : ∀ (i : Nat) (v : V), xs[i]? = some v → ∃ (t : Addr) (x y : V), v = .ref t ∧ H1 t = some (.tup [x, y]))
    (hs : ∀ i t x y H (G : Hp → Prop) (F : VK), xs[i]? = some (.ref t) → H1 t = some (.tup [x, y]) → Same H1 H → (∀ H', Same H H' → f i = none → G H') → (∀ v H', Same H H' → f i = some v → F v H') → tc (some x :: some y :: rest) H fun b H3 => if b = true then te (some x :: some y :: rest) H3 F else G H3)
    (hd : ∀ H, Same H1 H → H D = some (.lst ((List.range xs.length).filterMap f)) → Q (.ref D) H) : CompW (Itl K a) (gTup K 2 (gCons (gName 0) (gCons (gName 1) gNil))) tc te Q D (none :: none :: rest) H1 := by
  refine comp_list (K := K) (xs := xs) (fun i σ H => (∃ u v, σ = u :: v :: rest) ∧ Same H1 H ∧ H D = some (.lst ((List.range i).filterMap f))) ⟨⟨none, none, rfl⟩, same_new hD, upd_same⟩ (fun i σ H _ ⟨_, sm, _⟩ => SqL.of (sm _ _ hq)) ?_ (fun σ H ⟨_, sm, e⟩ => hd H sm e)
  rintro i v σ H hi ⟨⟨u1, u2, rfl⟩, sm, e⟩
  obtain ⟨t, x, y, rfl, ht⟩ := hp i v hi
  have hil : i < xs.length := (List.getElem?_eq_some_iff.mp hi).1
  refine ⟨t, _, rfl, SqT.of (sm _ _ ht), rfl, _, _, rfl, _, _, rfl, rfl, ?_⟩
  refine hs i t x y H _ _ hi ht sm (fun H3 s3 ef => ⟨⟨_, _, rfl⟩, sm.trans s3, by rw [s3 _ _ e, fm_succ, ef]; simp⟩) (fun y H4 s4 ef => ?_)
  refine ⟨_, s4 _ _ e, ?_, ⟨_, _, rfl⟩, (sm.trans s4).newly hD, ?_⟩
  · have := fm_len f i
    rw [sizeLine_eq]; omega
  · rw [upd_same, fm_succ, ef]; rfl
end

theorem nm_hit {ws : List Tch} {y : Prs} {m : Nat} (e : (nm ws)[m]? = some y) : ((nm ws).map pD)[m]? = some (pD y) := by rw [List.getElem?_map, e]; rfl
theorem nm_first {ws : List Tch} {y : Prs} {m : Nat} (e : (nm ws)[m]? = some y) : ∀ m' e', m' < m → ((nm ws).map pD)[m']? = some e' → PyData.eqv e' (pD y) = false := fun m' e' lt he => by
  rw [List.getElem?_map] at he
  cases ez : (nm ws)[m']? with
  | none => rw [ez] at he; cases he
  | some z =>
    rw [ez] at he
    cases he
    rw [eqv_pD]
    refine decide_eq_false fun w => ?_
    subst w
    exact nm_lt ez e lt
theorem eqv_pDs (y : Prs) : PyData.eqv (pD y) (pD y) = true := by rw [eqv_pD]; simp

/-! ### the law's own enough -/
def noteAt (ws : List Tch) (i j : Nat) : Nt := (hnd ws i, cnt (ws.take i) (hnd ws i), hnd ws j, cnt (ws.take j) (hnd ws j))
def mxL : List Int → Int
  | [] => 0
  | x :: l => l.foldl max x
theorem foldl_max (l : List Int) : ∀ x, l.foldl max x ∈ x :: l ∧ ∀ a ∈ x :: l, a ≤ l.foldl max x := by
  induction l with
  | nil => intro x; simp
  | cons y l ih =>
    intro x
    obtain ⟨h1, h2⟩ := ih (max x y)
    have hm : max x y = x ∨ max x y = y := by omega
    have lx : x ≤ max x y := by omega
    have ly : y ≤ max x y := by omega
    have top := h2 (max x y) (by simp)
    refine ⟨?_, fun a ha => ?_⟩
    · show l.foldl max (max x y) ∈ _
      rcases List.mem_cons.mp h1 with z | z
      · rw [z]; rcases hm with q | q <;> rw [q] <;> simp
      · simp [z]
    · show a ≤ l.foldl max (max x y)
      simp only [List.mem_cons] at ha
      rcases ha with rfl | rfl | ha
      · omega
      · omega
      · exact h2 a (by simp [ha])
theorem mxL_mem {l : List Int} (h : l ≠ []) : mxL l ∈ l ∧ ∀ a ∈ l, a ≤ mxL l := by
  match l, h with
  | x :: l, _ => exact foldl_max l x
theorem mxL_eq {l : List Int} {m : Int} (h : (l = [] ∧ m = 0) ∨ (m ∈ l ∧ ∀ a ∈ l, a ≤ m)) : m = mxL l := by
  rcases h with ⟨rfl, rfl⟩ | ⟨h1, h2⟩
  · rfl
  · have ne : l ≠ [] := fun z => by rw [z] at h1; cases h1
    obtain ⟨q1, q2⟩ := mxL_mem ne
    have := h2 _ q1
    have := q2 _ h1
    omega
theorem RchE.lt {ws : List Tch} {ns : List Nt} {j m : Nat} (r : RchE ws ns j m) : m < j := by
  induction r with
  | one h => exact h.lt.1
  | more h _ ih => exact Nat.lt_trans h.lt.1 ih
/-- pairs of places, and their notes -/
def prN (ws : List Tch) (ps : List Prs) : List Nt := ps.map fun x => noteAt ws x.1.toNat x.2.toNat
def PrOk (ws : List Tch) (ps : List Prs) : Prop := ∀ x ∈ ps, ∃ i j, x = prI i j ∧ i < j ∧ j < ws.length ∧ ¬ hnd ws i = hnd ws j
theorem se_iff {ws : List Tch} {ps : List Prs} (ok : PrOk ws ps) {a j : Nat} (hj : j < ws.length) : SE ws (prN ws ps) a j ↔ (0 < cnt (ws.take j) (hnd ws j) ∧ a = prv ws j) ∨ prI a j ∈ ps := by
  constructor
  · rintro (⟨h1, h2, h3, h4⟩ | ⟨x, hx, s⟩)
    · exact .inl (se_prv h1 h2 h3 h4)
    · unfold prN at hx
      obtain ⟨y, hy, rfl⟩ := List.mem_map.mp hx
      obtain ⟨i, j', rfl, h1, h2, h3⟩ := ok y hy
      obtain ⟨_, e1, e2, _⟩ := s
      have q1 : a = i := nm_inj e1 (nm_at (by omega))
      have q2 : j = j' := nm_inj e2 (nm_at h2)
      subst q1 q2
      exact .inr hy
  · rintro (⟨h1, rfl⟩ | h)
    · exact prv_se _ hj h1
    · obtain ⟨i, j', e, h1, h2, h3⟩ := ok _ h
      have q1 : a = i := by have := congrArg Prod.fst e; simp [prI] at this; omega
      have q2 : j = j' := by have := congrArg Prod.snd e; simp [prI] at this; omega
      subst q1 q2
      exact .inr ⟨noteAt ws a j, List.mem_map.mpr ⟨prI a j, h, rfl⟩, h3, nm_at (by omega), nm_at h2, h1⟩
def RowE (ws : List Tch) (ns : List Nt) (j : Nat) (a : List Int) : Prop := RowP ws a fun m => m = j ∨ RchE ws ns j m
/-- the highest of some rows, and a touch's own count -/
theorem rowE_mk {ws : List Tch} {ns : List Nt} {j : Nat} (ok : ∀ x ∈ ws, TchOk x) (hj : j < ws.length) {fs : List Nat} (hfs : ∀ a, a ∈ fs ↔ SE ws ns a j) {g : Nat → List Int} (hg : ∀ a ∈ fs, RowE ws ns a (g a))
    {row : List Int} (rl : row.length = 8) (hrow : ∀ h : Int, 0 ≤ h → h < 8 → (fs = [] ∧ gI row h = 0) ∨ ((∃ a ∈ fs, gI row h = gI (g a) h) ∧ ∀ a ∈ fs, gI (g a) h ≤ gI row h)) :
    RowE ws ns j (row.set (hnd ws j).toNat (cnt (ws.take j) (hnd ws j) + 1)) := by
  refine ⟨by rw [List.length_set]; exact rl, fun m x ex => ?_⟩
  obtain ⟨⟨x0, x1⟩, _⟩ := ok x (List.mem_of_getElem? ex)
  have ey : ws[j]? = some ws[j] := by simp
  obtain ⟨⟨y0, y1⟩, _⟩ := ok _ (List.mem_of_getElem? ey)
  rw [← hnd_of ey] at y0 y1
  have ml := (List.getElem?_eq_some_iff.mp ex).1
  have eh := hnd_of ex
  have nn := cnt_nn (ws.take m) x.1
  by_cases own : x.1 = hnd ws j
  · have e : gI (row.set (hnd ws j).toNat (cnt (ws.take j) (hnd ws j) + 1)) x.1 = cnt (ws.take j) (hnd ws j) + 1 := by
      obtain ⟨q, hq⟩ := Int.eq_ofNat_of_zero_le y0
      rw [own, hq, Int.toNat_natCast]
      refine gI_nat ?_
      rw [List.getElem?_set_self (by omega)]
    rw [e]
    have key := knp_hand hj m x ex
    simp only [own, if_true] at key
    rw [own, key]
    constructor
    · rintro ⟨h1, h2⟩
      by_cases q : m = j
      · exact .inl q
      · exact .inr (hand_rch ns j m hj (by omega) h1)
    · rintro (rfl | r)
      · exact ⟨rfl, Nat.le_refl _⟩
      · obtain ⟨a, se, q⟩ := rchE_last r
        have al := se.lt
        refine ⟨by rw [eh, own], ?_⟩
        rcases q with rfl | q
        · omega
        · have := q.lt
          omega
  · have e : gI (row.set (hnd ws j).toNat (cnt (ws.take j) (hnd ws j) + 1)) x.1 = gI row x.1 := by
      unfold gI
      rw [List.getElem?_set_ne (by omega)]
    rw [e]
    have nmj : m ≠ j := fun z => by subst z; rw [← eh] at own; exact own rfl
    rcases hrow x.1 x0 x1 with ⟨f0, r0⟩ | ⟨⟨a, ha, ea⟩, top⟩
    · rw [r0]
      constructor
      · intro z; omega
      · rintro (z | r)
        · exact absurd z nmj
        · obtain ⟨a, se, _⟩ := rchE_last r
          have := (hfs a).mpr se
          rw [f0] at this; cases this
    · constructor
      · intro z
        rw [ea] at z
        have := ((hg a ha).2 m x ex).mp z
        have se := (hfs a).mp ha
        rcases this with rfl | r
        · exact .inr (.one se)
        · exact .inr (rchE_snoc se r)
      · rintro (z | r)
        · exact absurd z nmj
        · obtain ⟨b, se, q⟩ := rchE_last r
          have hb := (hfs b).mpr se
          have := ((hg b hb).2 m x ex).mpr q
          have := top b hb
          omega
/-- a table of rows, all of it new since H0 -/
def TblE (ws : List Tch) (ns : List Nt) (H0 H : Hp) (t : Addr) (n : Nat) : Prop := ∃ rs : List Addr, H0 t = none ∧ H t = some (.lst (rs.map V.ref)) ∧ rs.length = n ∧ ∀ j r, rs[j]? = some r → r ≠ t ∧ H0 r = none ∧ ∃ a, H r = some (.lst (a.map V.int)) ∧ RowE ws ns j a
theorem TblE.same {ws : List Tch} {ns : List Nt} {H0 H H' : Hp} {t : Addr} {n : Nat} (h : TblE ws ns H0 H t n) (k : Same H H') : TblE ws ns H0 H' t n := by
  obtain ⟨rs, e0, e1, l, q⟩ := h
  refine ⟨rs, e0, k _ _ e1, l, fun j r hj => ?_⟩
  obtain ⟨n1, n2, a, ha, ra⟩ := q j r hj
  exact ⟨n1, n2, a, k _ _ ha, ra⟩
theorem gI_rng {f : Nat → Int} {h : Int} (h0 : 0 ≤ h) (h1 : h < 8) : gI ((List.range 8).map f) h = f h.toNat := by
  obtain ⟨m, rfl⟩ := Int.eq_ofNat_of_zero_le h0
  refine gI_nat ?_
  rw [List.getElem?_map, List.getElem?_range (by omega)]
  rfl
def srcs (ps : List Prs) (j : Nat) : List Nat := ps.filterMap fun x => if x.2 = (j : Int) then some x.1.toNat else none
theorem mem_srcs {ws : List Tch} {ps : List Prs} (ok : PrOk ws ps) {a j : Nat} : a ∈ srcs ps j ↔ prI a j ∈ ps := by
  unfold srcs
  rw [List.mem_filterMap]
  constructor
  · rintro ⟨x, hx, e⟩
    obtain ⟨i, j', rfl, _⟩ := ok x hx
    by_cases z : (prI i j').2 = (j : Int)
    · rw [if_pos z] at e
      have z : (j' : Int) = (j : Int) := z
      have e : i = a := by have := Option.some.inj e; simpa [prI] using this
      have z : j' = j := by omega
      subst e z
      exact hx
    · rw [if_neg z] at e; cases e
  · intro h
    exact ⟨_, h, by rw [if_pos (show (prI a j).2 = (j : Int) from rfl)]; rfl⟩
theorem srcs_V {ws : List Tch} {ps : List Prs} (ok : PrOk ws ps) (j : Nat) : ps.filterMap (fun y => if y.2 = (j : Int) then some (V.int y.1) else none) = (nI (srcs ps j)).map V.int := by
  unfold nI srcs
  rw [List.map_map, List.map_filterMap]
  induction ps with
  | nil => rfl
  | cons x ps ih =>
    rw [List.filterMap_cons, List.filterMap_cons, ih fun y hy => ok y (List.mem_cons_of_mem _ hy)]
    obtain ⟨i, j', rfl, _⟩ := ok x List.mem_cons_self
    by_cases z : (prI i j').2 = (j : Int)
    · simp only [if_pos z]; rfl
    · simp only [if_neg z]; rfl
def spLen (K : PySem.W.Frag) : Sp := fun vs H Q _ => ∃ (a c s : Addr) (ws : List Tch) (ps : List Prs), vs = [.ref a, .ref c, .ref s] ∧ WebAt H a ws ∧ PrsAt H c (nm ws) ∧ PrsAt H s ps ∧ ps.length ≤ 95000 ∧ PrOk ws ps ∧ (∀ x ∈ ws, TchOk x) ∧ ws.length ≤ 300 ∧ ∀ (b : Bool) H', (b = true ↔ EnP ws (prN ws ps)) → Same H H' → Q (.bl b) H'
theorem ok_Len {f : Addr} {fd : FuncData} (F : Fun K "_law_enough" "_law_enough" s_Lenough f fd) (F_Lmeets : FnAt P w K mg base 1 "_law_meets" ["one", "other"] (spMt K)) (Bt : Blt mg) : FnOk P w K mg base CX0 2 f fd ["web", "calls", "some"] (spLen K) := by
  refine F.ok sc_Lenough (fun vs H Q E h => ?_) (fun cdv A outer s H vs Q E hr h => ?_)
  · obtain ⟨a, c, s, ws, ps, rfl, _⟩ := h
    rfl
  · obtain ⟨a, c, sa, ws, ps, rfl, W, C, Ps, pl, pok, ok, wl, k⟩ := h
    have hu64 := hr.units
    obtain ⟨vs, ha, dv⟩ := id W
    have vlen : vs.length = ws.length := by rw [dv.length, List.length_map]
    refine ⟨_, (pss_cons (ps_set (i := 3) sc_Lenough.nd rfl (Or.inr rfl) (pe_lst pa_nil))
      (pss_cons (ps_for PassesOwn.never rfl (pi_range1 (by rfl) Bt.b_range (pa_cons (pe_callB (call_len_seqK (K := K) rfl) (by rfl) Bt.b_len bt_len (pa_cons (pv 0) pa_nil)) pa_nil)) (pg_name (i := 4) sc_Lenough.nd rfl (Or.inr rfl))
      (pss_cons (ps_asg (pe_ix (ix_listK (K := K) rfl) (pv 1) (pv 4) (fun _ _ => rfl)) (pg_tupK (K := K) (n := 2) rfl rfl (pgs_cons (pg_name (i := 5) sc_Lenough.nd rfl (Or.inl rfl)) (pgs_cons (pg_name (i := 6) sc_Lenough.nd rfl (Or.inl rfl)) pgs_nil))))
      (pss_cons (ps_set (i := 7) sc_Lenough.nd rfl (Or.inr rfl) (pe_comp rfl (N := ["i", "other", "j"]) (own := ["i", "other"]) (caps := [4]) (CompScope.of (by kernel_rfl)) (pi_listK (K := K) rfl (pv 2)) (fun _ _ _ _ => (pg_tupK (K := K) (n := 2) rfl rfl (pgs_cons (pg_name (i := 0) (show List.Nodup (["i", "other", "j"] : List Str) by decide +kernel) rfl (Or.inl rfl)) (pgs_cons (pg_name (i := 1) (show List.Nodup (["i", "other", "j"] : List Str) by decide +kernel) rfl (Or.inl rfl)) pgs_nil)))) (fun _ _ _ _ => (pts_one (pt_cmpR op_eq (pv 1) (pv 2) (nomark _)))) (fun _ _ _ _ => (pv 0))))
      (pss_cons (ps_if (pt_cmpR op_gt (pv 6) pe_int (nomark _)) (pss_one (ps_expr (pe_appendK (K := K) rfl (pv 7) (pa_cons (pe_bmK (K := K) rfl PySem.F.plainAttrs_list PySem.F.slot_list_index PySem.F.type_list_index (mt_indexDK (K := K) rfl hr.units1) (pv 1) (pa_cons (pe_tup (pa_cons (pv 5) (pa_cons (pe_op op_sub (pv 6) pe_int) pa_nil))) pa_nil)) pa_nil)))) pss_nil)
      (pss_cons (ps_setCC (i := 8) rfl sc_Lenough.nd rfl (Or.inl rfl) (xc := "one") (N := ["one", "firsts", "table"]) (own := ["one"]) (caps := [7, 3]) (CompScopeC.of (by kernel_rfl)) (pi_range1 (by rfl) Bt.b_range (pa_cons pe_int pa_nil)) (fun _ _ _ _ => (pg_name (i := 0) (show List.Nodup (["one", "firsts", "table"] : List Str) by decide +kernel) rfl (Or.inr rfl) (Or.inl cxCompC_fn))) (fun _ _ _ _ => pts_nil) (fun _ _ _ _ => (pe_maxD (K := K) rfl rfl (by rfl) Bt.b_max bt_max (pa_cons (pe_comp rfl (N := ["i", "one", "table"]) (own := ["i"]) (caps := [0, 2]) (CompScope.of (by kernel_rfl)) (pi_listK (K := K) rfl (pv 1)) (fun _ _ _ _ => (pg_name (i := 0) (show List.Nodup (["i", "one", "table"] : List Str) by decide +kernel) rfl (Or.inl rfl))) (fun _ _ _ _ => pts_nil) (fun _ _ _ _ => (pe_ix (ix_listK (K := K) rfl) (pe_ix (ix_listK (K := K) rfl) (pv 2) (pv 0) (fun _ _ => rfl)) (pv 1) (fun _ _ => rfl)))) pa_nil) pe_int)))
      (pss_cons (ps_asg (pe_op op_add (pv 6) pe_int) (pg_sub (pv 8) (pv 5) set_list))
      (pss_one (ps_expr (pe_appendK (K := K) rfl (pv 3) (pa_cons (pv 8) pa_nil))))))))))
      (pss_cons (ps_for PassesOwn.never rfl (pi_range1 (by rfl) Bt.b_range (pa_cons (pe_callB (call_len_seqK (K := K) rfl) (by rfl) Bt.b_len bt_len (pa_cons (pv 0) pa_nil)) pa_nil)) (pg_name (i := 4) sc_Lenough.nd rfl (Or.inr rfl))
      (pss_one (ps_for PassesOwn.never rfl (pi_range1 (by rfl) Bt.b_range (pa_cons (pv 4) pa_nil)) (pg_name (i := 9) sc_Lenough.nd rfl (Or.inl rfl))
      (pss_one (ps_if (PW.pt (pw_and (pt_val (pe_fn F_Lmeets (hr.mono (by decide)) (by rfl) (pa_cons (pe_ix (ix_listK (K := K) rfl) (pv 0) (pv 9) (fun _ _ => rfl)) (pa_cons (pe_ix (ix_listK (K := K) rfl) (pv 0) (pv 4) (fun _ _ => rfl)) pa_nil)))) (pw_and1 (pt_cmpR op_ge (pe_ix (ix_tupK (K := K) rfl) (pe_ix (ix_listK (K := K) rfl) (pv 1) (pv 9) (fun _ _ => rfl)) pe_int (fun _ _ => rfl)) (pe_ix (ix_listK (K := K) rfl) (pe_ix (ix_listK (K := K) rfl) (pv 3) (pv 4) (fun _ _ => rfl)) (pe_ix (ix_tupK (K := K) rfl) (pe_ix (ix_listK (K := K) rfl) (pv 1) (pv 9) (fun _ _ => rfl)) pe_int (fun _ _ => rfl)) (fun _ _ => rfl)) (nomark _))))) (pss_one (ps_ret pe_bl)) pss_nil)))))
      (pss_one (ps_ret pe_bl))))), ?_⟩
    refine ⟨(by show 0 ≤ sizeLine; decide), fun t ht => ?_⟩
    have s1 := same_new (o := HO.lst []) ht
    refine ⟨_, rfl, a, _, rfl, .inl (SqL.of (s1 _ _ ha)), _, rfl, by omega, by omega, ?_⟩
    rw [show ((vs.length : Nat) : Int).toNat = ws.length by omega]
    refine for_range (lo := 0) (n := ws.length) (fun j σ H2 => ∃ (x1 x2 x3 x4 x5 x6 : Option V), σ = [some (.ref a), some (.ref c), some (.ref sa), some (.ref t), x1, x2, x3, x4, x5, x6] ∧ Same H H2 ∧ TblE ws (prN ws ps) H H2 t j)
      ⟨none, none, none, none, none, none, rfl, s1, [], ht, upd_same, rfl, fun j r hj => by simp at hj⟩ ?_ ?_
    · rintro j σ H2 hj ⟨x1, x2, x3, x4, x5, x6, rfl, sm, T⟩
      have ey : ws[j]? = some ws[j] := by simp
      have oy := (ok _ (List.mem_of_getElem? ey)).1
      rw [← hnd_of ey] at oy
      obtain ⟨cv, tm, hcv, etm, htm⟩ := prs_at (C.same sm) (nm_at hj)
      obtain ⟨_, hcv', dcv⟩ := id (C.same sm)
      rw [hcv] at hcv'
      cases hcv'
      obtain ⟨as, rfl⟩ := prs_refs dcv
      refine ⟨_, rfl, _, rfl, _, _, _, _, rfl, rfl, SqL.of hcv, atI0 etm, tm, _, rfl, SqT.of htm, rfl, _, _, rfl, _, _, rfl, rfl, ?_⟩
      -- firsts
      obtain ⟨pv, hpv, dpv⟩ := id (Ps.same sm)
      have pvl : pv.length = ps.length := by rw [dpv.length, List.length_map]
      refine ⟨_, rfl, sa, rfl, ⟨_, SqL.of hpv⟩, fun D hD => ?_⟩
      refine comp_valP (K := K) (fun m => (ps[m]?).bind fun y => if y.2 = (j : Int) then some (V.int y.1) else none) hD hpv (by omega) (fun m v hm => ?_) (fun m tt x y H3 G F' hm htt s3 kG kF => ?_) (fun H3 s3 e3 => ?_)
      · obtain ⟨x, tx, _, rfl, htx⟩ := prs_get dpv hm
        exact ⟨tx, _, _, rfl, htx⟩
      · obtain ⟨z, t', ez, et, ht'⟩ := prs_get dpv hm
        cases et
        rw [htt] at ht'
        injection ht' with q
        injection q with q
        injection q with q1 q2
        injection q2 with q2 _
        subst q1 q2
        refine ⟨_, rfl, _, rfl, rfl, _, rfl, ?_⟩
        by_cases e : z.2 = (j : Int)
        · rw [show decide (V.int z.2 = V.int (0 + (j : Int))) = true by simp [e]]
          exact iteT ⟨_, rfl, kF _ _ (Same.refl _) (by rw [ez]; simp [e])⟩
        · rw [show decide (V.int z.2 = V.int (0 + (j : Int))) = false by simp [e]]
          exact iteF (kG _ (Same.refl _) (by rw [ez]; simp [e]))
      rw [pvl, fm_get, srcs_V pok] at e3
      have nDt : t ≠ D := by obtain ⟨_, _, h, _⟩ := T; exact ne_of_none h hD
      have sl : (srcs ps j).length ≤ 95000 := Nat.le_trans (List.length_filterMap_le _ _) pl
      have hD0 := hD
      dsimp only
      refine seq_cps (fun σ H4 => ∃ fs : List Nat, σ = [some (.ref a), some (.ref c), some (.ref sa), some (.ref t), some (.int (0 + (j : Int))), some (.int (hnd ws j)), some (.int (cnt (ws.take j) (hnd ws j))), some (.ref D), x5, x6] ∧ Same H2 H4 ∧ LI H4 D (nI fs) ∧ fs.length ≤ 95001 ∧ ∀ b, b ∈ fs ↔ SE ws (prN ws ps) b j) (fun D' hD' hrt => ?_) ?_
      · refine ⟨_, rfl, _, _, rfl, rfl, _, rfl, ?_⟩
        by_cases kp : 0 < cnt (ws.take j) (hnd ws j)
        · rw [decide_eq_true kp]
          refine iteT ?_
          have ep := prv_at hj kp
          refine ⟨_, rfl, .inl ⟨rfl, _, SqL.of e3⟩, _, rfl, .inl ⟨rfl, _, SqL.of (s3 _ _ hcv)⟩, _, rfl, _, rfl, _, _, rfl, rfl, (by show 2 ≤ sizeLine; decide), fun q hq => ?_⟩
          have sq := same_new (o := HO.tup [V.int (hnd ws j), V.int (cnt (ws.take j) (hnd ws j) - 1)]) hq
          have s3q := s3.trans sq
          refine ⟨c, as, _, pD (hnd ws j, cnt (ws.take j) (hnd ws j) - 1), _, prv ws j, pD (hnd ws j, cnt (ws.take j) (hnd ws j) - 1), rfl, rfl, SqL.of (s3q _ _ hcv), Dats.keep s3q.tups _ (imms_map _ imm_pD _) dcv, dat_prs (x := (hnd ws j, cnt (ws.take j) (hnd ws j) - 1)) upd_same, shaped_pD _, shaped_pDs, nm_hit ep, eqv_pDs _, nm_first ep, ?_⟩
          refine ⟨D, _, _, rfl, rfl, sq _ _ e3, by rw [List.length_map, nI_len, sizeLine_eq]; omega, ?_⟩
          have kD : Kp D (upd H3 q (.tup [V.int (hnd ws j), V.int (cnt (ws.take j) (hnd ws j) - 1)])) (upd (upd H3 q (.tup [V.int (hnd ws j), V.int (cnt (ws.take j) (hnd ws j) - 1)])) D (.lst ((nI (srcs ps j)).map V.int ++ [V.int ((prv ws j : Nat) : Int)]))) := Kp.set
          refine hD' _ _ ⟨srcs ps j ++ [prv ws j], rfl, fun b o e => kD _ _ (s3q _ _ e) (ne_of_none e hD0), by show upd _ _ _ _ = _; rw [upd_same]; simp [nI], by simp; omega, fun b => ?_⟩
          rw [se_iff pok hj, List.mem_append, mem_srcs pok, List.mem_singleton]
          constructor
          · rintro (z | z)
            · exact .inr z
            · exact .inl ⟨kp, z⟩
          · rintro (⟨_, z⟩ | z)
            · exact .inr z
            · exact .inl z
        · rw [decide_eq_false kp]
          refine iteF ?_
          refine hD' _ _ ⟨srcs ps j, rfl, s3, e3, by omega, fun b => ?_⟩
          rw [se_iff pok hj, mem_srcs pok]
          exact ⟨.inr, fun z => z.resolve_left fun w => kp w.1⟩
      rintro σ H4 ⟨fs, rfl, s4, F4, fl, hfs⟩
      obtain ⟨rs, ht0, hts, rl, rq⟩ := T.same s4
      have rows : ∀ b, ∃ l : List Int, b ∈ fs → ∃ r, rs[b]? = some r ∧ H4 r = some (.lst (l.map V.int)) ∧ RowE ws (prN ws ps) b l := fun b => by
        by_cases hb : b ∈ fs
        · have bl := ((hfs b).mp hb).lt
          obtain ⟨r, er⟩ : ∃ r, rs[b]? = some r := ⟨rs[b]'(by omega), by simp⟩
          obtain ⟨_, _, l, hl, ro⟩ := rq b r er
          exact ⟨l, fun _ => ⟨r, er, hl, ro⟩⟩
        · exact ⟨[], fun z => absurd z hb⟩
      obtain ⟨g, hg⟩ := Classical.axiomOfChoice rows
      -- row
      refine ⟨_, rfl, by decide, by decide, fun R hR => ?_⟩
      refine comp_valR (fun h => some (V.int (mxL (fs.map fun b => gI (g b) (0 + (h : Int)))))) hR (by decide) (fun h H5 G F' hh s5 kG kF => ?_) (fun H5 s5 e5 => ?_)
      · have hh8 : h < 8 := hh
        refine ⟨_, rfl, D, rfl, ⟨_, SqL.of (F4.same s5)⟩, fun B hB => ?_⟩
        refine comp_val (K := K) (a := D) (xs := (nI fs).map V.int) (fun m => (fs[m]?).map fun b => V.int (gI (g b) (0 + (h : Int)))) hB (SqL.of (F4.same s5)) (by rw [List.length_map, nI_len]; omega) (fun m v H6 G' F2 hm s6 kG' kF2 => ?_) (fun H6 s6 e6 => ?_)
        · rw [List.getElem?_map] at hm
          cases ez : (nI fs)[m]? with
          | none => rw [ez] at hm; cases hm
          | some z =>
            rw [ez] at hm
            cases hm
            obtain ⟨b, eb, rfl⟩ := get_nI ez
            obtain ⟨r, er, hl, ro⟩ := hg b (List.mem_of_getElem? eb)
            have rol := ro.1
            have s46 := s5.trans s6
            exact ⟨_, rfl, _, rfl, _, _, _, _, rfl, rfl, SqL.of (s46 _ _ hts), atI_nat (by rw [List.getElem?_map, er]; rfl), _, rfl, _, _, _, _, rfl, rfl, SqL.of (s46 _ _ hl), atI_gI (by omega) (by omega), kF2 _ _ (Same.refl _) (by rw [eb]; rfl)⟩
        · rw [List.length_map, nI_len, fm_some] at e6
          have e6' : H6 B = some (.lst ((fs.map fun b => gI (g b) (0 + (h : Int))).map V.int)) := by rw [e6, List.map_map]; rfl
          refine ⟨B, _, 0, rfl, rfl, SqL.of e6', fun m hm => ?_⟩
          rw [mxL_eq hm]
          exact kF _ _ s6 rfl
      have F5 : LI H5 R ((List.range 8).map fun h : Nat => mxL (fs.map fun b => gI (g b) (0 + (h : Int)))) := by
        show H5 R = _
        rw [e5, List.map_map, ← List.filterMap_eq_map]
        rfl
      have rl8 : ((List.range 8).map fun h : Nat => mxL (fs.map fun b => gI (g b) (0 + (h : Int)))).length = 8 := by simp
      have RE := rowE_mk (ns := prN ws ps) ok hj hfs (g := g) (fun b hb => by obtain ⟨_, _, _, ro⟩ := hg b hb; exact ro) rl8 (fun h h0 h1 => by
        rw [gI_rng h0 h1, show (0 + ((h.toNat : Nat) : Int)) = h by omega]
        by_cases z : fs = []
        · exact .inl ⟨z, by rw [z]; rfl⟩
        · obtain ⟨q1, q2⟩ := mxL_mem (l := fs.map fun b => gI (g b) h) (by simpa using z)
          obtain ⟨b, hb, eb⟩ := List.mem_map.mp q1
          exact .inr ⟨⟨b, hb, eb.symm⟩, fun b' hb' => q2 _ (List.mem_map_of_mem hb')⟩)
      have hRt : t ≠ R := ne_of_none hts hR
      have hR0 : H R = none := (sm.trans s4).free hR
      generalize ((List.range 8).map fun h : Nat => mxL (fs.map fun b => gI (g b) (0 + (h : Int)))) = row at F5 rl8 RE
      refine ⟨_, rfl, _, _, rfl, rfl, _, rfl, _, rfl, _, _, _, _, rfl, rfl, F5, ixN_nat oy.1 (by rw [List.length_map]; omega), ?_⟩
      have k6 : Kp R H5 (upd H5 R (.lst ((row.map V.int).set (hnd ws j).toNat (V.int (cnt (ws.take j) (hnd ws j) + 1))))) := Kp.set
      have hts6 := k6 _ _ (s5 _ _ hts) hRt
      refine ⟨_, rfl, .inl ⟨rfl, _, SqL.of hts6⟩, _, rfl, t, _, _, rfl, rfl, hts6, by rw [List.length_map, sizeLine_eq]; omega, ?_⟩
      have k7 : Kp t (upd H5 R (.lst ((row.map V.int).set (hnd ws j).toNat (V.int (cnt (ws.take j) (hnd ws j) + 1))))) (upd (upd H5 R (.lst ((row.map V.int).set (hnd ws j).toNat (V.int (cnt (ws.take j) (hnd ws j) + 1))))) t (.lst (rs.map V.ref ++ [V.ref R]))) := Kp.set
      have sm5 := (sm.trans s4).trans s5
      refine ⟨_, _, _, _, _, _, rfl, fun b u e => k7 _ _ (k6 _ _ (sm5 _ _ e) (ne_of_none e hR0)) (ne_of_none e ht0), rs ++ [R], ht0, by rw [upd_same, List.map_append]; rfl, by simp [rl], fun m r hm => ?_⟩
      by_cases hml : m < rs.length
      · rw [List.getElem?_append_left hml] at hm
        obtain ⟨n1, n2, aa, haa, raa⟩ := rq m r hm
        exact ⟨n1, n2, aa, k7 _ _ (k6 _ _ (s5 _ _ haa) (ne_of_none haa hR)) n1, raa⟩
      · rw [List.getElem?_append_right (by omega)] at hm
        have hm1 := (List.getElem?_eq_some_iff.mp hm).1
        have em : m = j := by simp at hm1; omega
        subst em
        rw [rl, Nat.sub_self] at hm
        cases hm
        refine ⟨hRt.symm, hR0, _, k7 _ _ (by rw [upd_same, List.map_set]) hRt.symm, RE⟩
    · rintro σ H2 ⟨x1, x2, x3, x4, x5, x6, rfl, sm, T⟩
      refine ⟨_, rfl, a, _, rfl, .inl (SqL.of (sm _ _ ha)), _, rfl, by omega, by omega, ?_⟩
      rw [show ((vs.length : Nat) : Int).toNat = ws.length by omega]
      refine for_range (lo := 0) (n := ws.length) (fun j σ H3 => ∃ (y1 y6 : Option V), σ = [some (.ref a), some (.ref c), some (.ref sa), some (.ref t), y1, x2, x3, x4, x5, y6] ∧ Same H2 H3 ∧ ∀ (i j' : Nat) (x y : Tch), j' < j → i < j' → ws[i]? = some x → ws[j']? = some y → mt x y = true → RchE ws (prN ws ps) j' i)
        ⟨_, _, rfl, Same.refl _, fun i j' x y h => absurd h (Nat.not_lt_zero _)⟩ ?_ ?_
      · rintro j σ H3 hj ⟨y1, y6, rfl, s3, inv⟩
        refine ⟨_, rfl, _, rfl, by omega, by omega, ?_⟩
        rw [show (0 + (j : Int)).toNat = j by omega]
        refine for_range (lo := 0) (n := j) (fun i σ H4 => ∃ (y6 : Option V), σ = [some (.ref a), some (.ref c), some (.ref sa), some (.ref t), some (.int (0 + (j : Int))), x2, x3, x4, x5, y6] ∧ Same H2 H4 ∧ ∀ (i' : Nat) (x y : Tch), i' < i → ws[i']? = some x → ws[j]? = some y → mt x y = true → RchE ws (prN ws ps) j i')
          ⟨_, rfl, s3, fun i' x y h => absurd h (Nat.not_lt_zero _)⟩ ?_ ?_
        · rintro i σ H4 hi ⟨y6, rfl, s4, inv4⟩
          have il : i < ws.length := by omega
          obtain ⟨x, ex⟩ : ∃ x, ws[i]? = some x := ⟨ws[i], by simp [il]⟩
          obtain ⟨y, ey⟩ : ∃ y, ws[j]? = some y := ⟨ws[j], by simp [hj]⟩
          obtain ⟨⟨x0, x1⟩, _⟩ := ok x (List.mem_of_getElem? ex)
          have s04 := sm.trans s4
          obtain ⟨us, t1, hus, e1, ht1⟩ := web_get (W.same s04) ex
          obtain ⟨us', t2, hus', e2, ht2⟩ := web_get (W.same s04) ey
          have ev : us = us' := by rw [hus] at hus'; injection hus' with q; injection q
          subst ev
          refine ⟨_, rfl, _, rfl, _, _, _, _, rfl, rfl, SqL.of hus, atI0 e1, _, rfl, _, rfl, _, _, _, _, rfl, rfl, SqL.of hus, atI0 e2, t1, t2, x, y, rfl, ht1, ht2, _, rfl, ?_⟩
          cases em : mt x y with
          | false =>
            refine (show if false = true then _ else _ from iteF ?_)
            refine ⟨_, rfl, s4, fun i' x' y' hi' ex' ey' m' => ?_⟩
            by_cases z : i' = i
            · subst z
              rw [ex] at ex'; rw [ey] at ey'
              cases ex'; cases ey'
              rw [em] at m'; cases m'
            · exact inv4 i' x' y' (by omega) ex' ey' m'
          | true =>
            refine (show if true = true then _ else _ from iteT ?_)
            obtain ⟨cv, tm, hcv, etm, htm⟩ := prs_at (C.same s04) (nm_get ex)
            obtain ⟨rs, ht0, hts, rl, rq⟩ := T.same s4
            obtain ⟨r, er⟩ : ∃ r, rs[j]? = some r := ⟨rs[j]'(by omega), by simp⟩
            obtain ⟨_, _, row, hrow, ro⟩ := rq j r er
            have rol := ro.1
            have key := ro.2 i x ex
            refine ⟨_, rfl, _, rfl, _, _, _, _, rfl, rfl, SqL.of hcv, atI0 etm, _, _, _, _, rfl, rfl, SqT.of htm, rfl, _, rfl, _, rfl, _, _, _, _, rfl, rfl, SqL.of hts, atI0 (by rw [List.getElem?_map, er]; rfl), _, rfl, _, rfl, _, _, _, _, rfl, rfl, SqL.of hcv, atI0 etm, _, _, _, _, rfl, rfl, SqT.of htm, rfl, _, _, _, _, rfl, rfl, SqL.of hrow, atI_gI x0 (by omega), _, _, rfl, rfl, _, rfl, ?_⟩
            by_cases q : cnt (ws.take i) x.1 < gI row x.1
            · rw [decide_eq_false (show ¬ gI row x.1 ≤ cnt (ws.take i) x.1 by omega)]
              refine iteF ?_
              refine ⟨_, rfl, s4, fun i' x' y' hi' ex' ey' m' => ?_⟩
              by_cases z : i' = i
              · subst z
                exact (key.mp q).resolve_left (by omega)
              · exact inv4 i' x' y' (by omega) ex' ey' m'
            · rw [decide_eq_true (show gI row x.1 ≤ cnt (ws.take i) x.1 by omega)]
              refine iteT ?_
              exact k false _ ⟨fun z => Bool.noConfusion z, fun z => absurd (key.mpr (.inr (z i j x y hi ex ey em))) q⟩ s04
        · rintro σ H4 ⟨y6, rfl, s4, inv4⟩
          refine ⟨_, _, rfl, s4, fun i j' x y hj' hij ex ey m => ?_⟩
          by_cases z : j' = j
          · subst z
            exact inv4 i x y (by omega) ex ey m
          · exact inv i j' x y (by omega) hij ex ey m
      · rintro σ H3 ⟨y1, y6, rfl, s3, inv⟩
        exact k true _ ⟨fun _ => fun i j x y hij ex ey m => inv i j x y (List.getElem?_eq_some_iff.mp ey).1 hij ex ey m, fun _ => rfl⟩ (sm.trans s3)

/-! ### the law's own -/
section
variable {D r : Addr} {te : TE} {Q : VK} {rest : St} {H1 : Hp} {n : Nat}
theorem SpringOk.ne {H : Hp} {r p : Addr} (h : SpringOk H r) (hp : H p = none) : p ≠ r := by
  obtain ⟨f, t, c, e, _⟩ := h
  exact (ne_of_none e hp).symm
theorem SpringOk.at {H : Hp} {r : Addr} (h : SpringOk H r) : ∃ o, H r = some o := by
  obtain ⟨f, t, c, e, _⟩ := h
  exact ⟨_, e⟩
theorem SpringOk.tups {H H' : Hp} {r : Addr} (h : SpringOk H r) (k : Kp r H H') : ∀ a xs, H a = some (HO.tup xs) → H' a = some (HO.tup xs) := by
  obtain ⟨f, t, c, e, _⟩ := h
  exact k.tups e
theorem Kp.new {H H' : Hp} {r p : Addr} (k : Kp r H H') (hp : H' p = none) (hr : ∃ o, H' r = some o) : H p = none := by
  cases e : H p with
  | none => rfl
  | some o =>
    by_cases n : p = r
    · subst n
      obtain ⟨o', ho⟩ := hr
      rw [hp] at ho
      cases ho
    · rw [k _ _ e n] at hp
      cases hp
theorem comp_sprR (hD : H1 D = none) (hS : SpringOk H1 r) (hx : n ≤ 100000)
    (hs : ∀ i H (F : VK), i < n → Kp r H1 H → SpringOk H r → (∀ z H', Kp r H H' → SpringOk H' r → F (.int z) H') → te (some (.int (0 + i)) :: rest) H F)
    (hd : ∀ H (zs : List Int), zs.length = n → H D = some (.lst (zs.map V.int)) → Kp r H1 H → SpringOk H r → Q (.ref D) H) : CompW (Itr 0 n) (gName 0) tAll te Q D (none :: rest) H1 := by
  have nr := hS.ne hD
  have mv : ∀ {H : Hp} {o : HO}, Kp r H1 H → Kp r H1 (upd H D o) := fun k c u e m => by rw [upd_ne (ne_of_none e hD)]; exact k c u e m
  refine comp_range (lo := 0) (n := n) (fun i σ H => (∃ v, σ = v :: rest) ∧ ∃ zs : List Int, zs.length = i ∧ H D = some (.lst (zs.map V.int)) ∧ Kp r H1 H ∧ SpringOk H r) ⟨⟨none, rfl⟩, [], rfl, upd_same, .of_same (same_new hD), hS.keep (same_new hD)⟩ ?_ (fun σ H ⟨_, zs, hl, e, k, B⟩ => hd H zs hl e k B)
  rintro i σ H hi ⟨⟨v, rfl⟩, zs, hl, e, k1, B1⟩
  refine hs i H _ hi k1 B1 fun z H' k2 B2 => ?_
  refine ⟨_, k2 _ _ e nr, ?_, ⟨_, rfl⟩, zs ++ [z], by simp [hl], ?_, mv (k1.trans k2), B2.keep' Kp.set nr.symm⟩
  · rw [List.length_map, sizeLine_eq]; omega
  · rw [upd_same]; simp
end

def PrV (ws : List Tch) (H : Hp) (v : V) : Prop := ∃ (t : Addr) (i j : Nat), v = .ref t ∧ H t = some (.tup [.int (i : Int), .int (j : Int)]) ∧ i < j ∧ j < ws.length ∧ ¬ hnd ws i = hnd ws j
theorem PrV.keep {ws : List Tch} {H H' : Hp} {v : V} (h : PrV ws H v) (k : ∀ a xs, H a = some (HO.tup xs) → H' a = some (HO.tup xs)) : PrV ws H' v := by
  obtain ⟨t, i, j, e, ht, q⟩ := h
  exact ⟨t, i, j, e, k _ _ ht, q⟩
theorem prv_prs {ws : List Tch} {H : Hp} : ∀ us : List V, (∀ u ∈ us, PrV ws H u) → ∃ ps : List Prs, Dats H us (ps.map pD) ∧ ps.length = us.length ∧ PrOk ws ps
  | [], _ => ⟨[], by simp [Dats], rfl, fun _ h => by cases h⟩
  | u :: us, h => by
    obtain ⟨ps, h1, h2, h3⟩ := prv_prs us fun x hx => h x (List.mem_cons_of_mem _ hx)
    obtain ⟨t, i, j, rfl, ht, q⟩ := h u List.mem_cons_self
    refine ⟨prI i j :: ps, ?_, by simp [h2], fun y hy => ?_⟩
    · simp only [List.map_cons, Dats]
      exact ⟨dat_prs (x := prI i j) ht, h1⟩
    · rcases List.mem_cons.mp hy with rfl | hy
      · exact ⟨i, j, rfl, q⟩
      · exact h3 y hy
theorem prs_prv {ws : List Tch} {H : Hp} {us : List V} {ps : List Prs} (d : Dats H us (ps.map pD)) (ok : PrOk ws ps) : ∀ u ∈ us, PrV ws H u := fun u hu => by
  obtain ⟨i, hi⟩ := List.getElem?_of_mem hu
  obtain ⟨x, t, ex, rfl, ht⟩ := prs_get d hi
  obtain ⟨a, b, rfl, q⟩ := ok x (List.mem_of_getElem? ex)
  exact ⟨t, a, b, rfl, ht, q⟩
theorem mem_cutV {vs : List V} {a b : Option Int} {v : V} (h : v ∈ cutV vs a b) : v ∈ vs := by
  unfold cutV at h
  exact List.mem_of_mem_drop (List.mem_of_mem_take h)
def spAny (K : PySem.W.Frag) : Sp := fun vs H Q _ => ∃ (r a : Addr) (ws : List Tch) (m : Int), vs = [.ref r, .ref a, .int m] ∧ SpringOk H r ∧ WebAt H a ws ∧ a ≠ r ∧ ws.length ≤ 300 ∧ 0 ≤ m ∧ m ≤ 300 ∧ ∀ (s : Addr) (us : List V) H', H s = none → H' s = some (.lst us) → us.length ≤ 300 → (∀ u ∈ us, PrV ws H' u) → SpringOk H' r → Kp r H H' → Q (.ref s) H'
theorem ok_Lany {f : Addr} {fd : FuncData} (F : Fun K "_law_any" "_law_any" s_Lany f fd) (F_Ldraw : FnAt P w K mg base 1 "_law_draw" ["spring", "many"] (spDraw K)) (Bt : Blt mg) : FnOk P w K mg base CX0 2 f fd ["spring", "web", "many"] (spAny K) := by
  refine F.ok sc_Lany (fun vs H Q E h => ?_) (fun cdv A outer s H vs Q E hr h => ?_)
  · obtain ⟨r, a, ws, m, rfl, _⟩ := h
    rfl
  · obtain ⟨r, a, ws, m, rfl, S0, W, nar, wl, m0, m1, k⟩ := h
    have hu64 := hr.units
    refine ⟨_, (pss_cons (ps_set (i := 3) sc_Lany.nd rfl (Or.inl rfl) (pe_lst pa_nil))
      (pss_cons (ps_for PassesOwn.never rfl (pi_range1 (by rfl) Bt.b_range (pa_cons (pv 2) pa_nil)) (pg_name (i := 4) sc_Lany.nd rfl (Or.inl rfl))
      (pss_cons (ps_set (i := 5) sc_Lany.nd rfl (Or.inl rfl) (pe_fn F_Ldraw (hr.mono (by decide)) (by rfl) (pa_cons (pv 0) (pa_cons (pe_callB (call_max2 rfl) (by rfl) Bt.b_max bt_max (pa_cons pe_int (pa_cons (pe_callB (call_len_seqK (K := K) rfl) (by rfl) Bt.b_len bt_len (pa_cons (pv 1) pa_nil)) pa_nil))) pa_nil))))
      (pss_cons (ps_set (i := 6) sc_Lany.nd rfl (Or.inl rfl) (pe_fn F_Ldraw (hr.mono (by decide)) (by rfl) (pa_cons (pv 0) (pa_cons (pe_callB (call_max2 rfl) (by rfl) Bt.b_max bt_max (pa_cons pe_int (pa_cons (pe_callB (call_len_seqK (K := K) rfl) (by rfl) Bt.b_len bt_len (pa_cons (pv 1) pa_nil)) pa_nil))) pa_nil))))
      (pss_one (ps_if (PW.pt (pw_and (pt_cmpR op_ne (pv 5) (pv 6) (nomark _)) (pw_and1 (pt_cmpR op_ne (pe_ix (ix_tupK (K := K) rfl) (pe_ix (ix_listK (K := K) rfl) (pv 1) (pv 5) (fun _ _ => rfl)) pe_int (fun _ _ => rfl)) (pe_ix (ix_tupK (K := K) rfl) (pe_ix (ix_listK (K := K) rfl) (pv 1) (pv 6) (fun _ _ => rfl)) pe_int (fun _ _ => rfl)) (nomark _))))) (pss_one (ps_expr (pe_appendK (K := K) rfl (pv 3) (pa_cons (pe_tup (pa_cons (pe_callB (call_min2 rfl) (by rfl) Bt.b_min bt_min (pa_cons (pv 5) (pa_cons (pv 6) pa_nil))) (pa_cons (pe_callB (call_max2 rfl) (by rfl) Bt.b_max bt_max (pa_cons (pv 5) (pa_cons (pv 6) pa_nil))) pa_nil))) pa_nil)))) pss_nil)))))
      (pss_one (ps_ret (pv 3))))), ?_⟩
    refine ⟨(by show 0 ≤ sizeLine; decide), fun f hf => ?_⟩
    have s1 := same_new (o := HO.lst []) hf
    have nfr : f ≠ r := S0.ne hf
    refine ⟨_, rfl, _, rfl, by omega, by omega, ?_⟩
    refine for_range (lo := 0) (n := _) (fun i σ H2 => ∃ (us : List V) (x1 x2 x3 : Option V), σ = [some (.ref r), some (.ref a), some (.int m), some (.ref f), x1, x2, x3] ∧ H2 f = some (.lst us) ∧ us.length ≤ i ∧ (∀ u ∈ us, PrV ws H2 u) ∧ SpringOk H2 r ∧ Kp r H H2)
      ⟨[], none, none, none, rfl, upd_same, Nat.le_refl _, by simp, S0.keep s1, .of_same s1⟩ ?_ ?_
    · rintro i σ H2 hi ⟨us, x1, x2, x3, rfl, hus, ul, uv, S2, k2⟩
      obtain ⟨wv, hwv, dwv⟩ := id (W.spr S0 k2 nar)
      have wvl : wv.length = ws.length := by rw [dwv.length, List.length_map]
      have mx : 0 < (if ((wv.length : Nat) : Int) > 1 then ((wv.length : Nat) : Int) else 1) ∧ (if ((wv.length : Nat) : Int) > 1 then ((wv.length : Nat) : Int) else 1) < 1073741824 := by split <;> omega
      refine ⟨_, rfl, _, rfl, a, _, rfl, .inl (SqL.of hwv), _, _, rfl, r, _, rfl, S2, mx.1, mx.2, fun n1 H3 n10 n11 S3 k3 => ?_⟩
      refine ⟨_, rfl, _, rfl, a, _, rfl, .inl (SqL.of (k3 _ _ hwv nar)), _, _, rfl, r, _, rfl, S3, mx.1, mx.2, fun n2 H4 n20 n21 S4 k4 => ?_⟩
      have k24 := k3.trans k4
      have k04 := k2.trans k24
      have hus4 := k24 _ _ hus nfr
      have uv4 : ∀ u ∈ us, PrV ws H4 u := fun u hu => (uv u hu).keep (S2.tups k24)
      refine ⟨_, rfl, _, rfl, rfl, _, rfl, ?_⟩
      by_cases en : n1 = n2
      · subst en
        refine iteNS rfl ?_
        exact ⟨us, _, _, _, rfl, hus4, by omega, uv4, S4, k04⟩
      · rw [show (!decide (V.int n1 = V.int n2)) = true by simp [en]]
        refine iteT ?_
        have l1 : n1 < ws.length := by split at n11 <;> omega
        have l2 : n2 < ws.length := by split at n21 <;> omega
        obtain ⟨i1, rfl⟩ := Int.eq_ofNat_of_zero_le n10
        obtain ⟨i2, rfl⟩ := Int.eq_ofNat_of_zero_le n20
        have W4 := W.spr S0 k04 nar
        obtain ⟨x, ex⟩ : ∃ x, ws[i1]? = some x := ⟨ws[i1]'(by omega), by simp⟩
        obtain ⟨y, ey⟩ : ∃ y, ws[i2]? = some y := ⟨ws[i2]'(by omega), by simp⟩
        obtain ⟨v4, t1, hv4, et1, ht1⟩ := web_get W4 ex
        obtain ⟨v4', t2, hv4', et2, ht2⟩ := web_get W4 ey
        have ev : v4 = v4' := by rw [hv4] at hv4'; injection hv4' with q; injection q
        subst ev
        refine ⟨_, rfl, _, rfl, _, _, _, _, rfl, rfl, SqL.of hv4, atI_nat et1, _, _, _, _, rfl, rfl, SqT.of ht1, rfl, _, rfl, _, rfl, _, _, _, _, rfl, rfl, SqL.of hv4, atI_nat et2, _, _, _, _, rfl, rfl, SqT.of ht2, rfl, rfl, _, rfl, ?_⟩
        by_cases eh : x.1 = y.1
        · refine iteNS (by rw [eh]) ?_
          exact ⟨us, _, _, _, rfl, hus4, by omega, uv4, S4, k04⟩
        · rw [show (!decide (V.int x.1 = V.int y.1)) = true by simp [eh]]
          refine iteT ?_
          refine ⟨_, rfl, .inl ⟨rfl, _, SqL.of hus4⟩, _, rfl, _, rfl, _, _, rfl, _, rfl, _, rfl, _, _, rfl, (by show 2 ≤ sizeLine; decide), fun q hq => ?_⟩
          refine ⟨f, us, _, rfl, rfl, same_new hq _ _ hus4, by rw [sizeLine_eq]; omega, ?_⟩
          have nfq : f ≠ q := ne_of_none hus4 hq
          have fin : ∀ (o : HO) (lo hi : Nat), o = .tup [.int (lo : Int), .int (hi : Int)] → lo < hi → hi < ws.length → ¬ hnd ws lo = hnd ws hi → ∃ (us' : List V) (y1 y2 y3 : Option V), [some (V.ref r), some (.ref a), some (.int m), some (.ref f), some (.int (0 + (i : Int))), some (.int (i1 : Int)), some (.int (i2 : Int))] = [some (.ref r), some (.ref a), some (.int m), some (.ref f), y1, y2, y3] ∧ (upd (upd H4 q o) f (.lst (us ++ [V.ref q]))) f = some (.lst us') ∧ us'.length ≤ i + 1 ∧ (∀ u ∈ us', PrV ws (upd (upd H4 q o) f (.lst (us ++ [V.ref q]))) u) ∧ SpringOk (upd (upd H4 q o) f (.lst (us ++ [V.ref q]))) r ∧ Kp r H (upd (upd H4 q o) f (.lst (us ++ [V.ref q]))) := fun o lo hi eo h1 h2 h3 => by
            have sq : Same H4 (upd H4 q o) := same_new hq
            have kf : Kp f (upd H4 q o) (upd (upd H4 q o) f (.lst (us ++ [V.ref q]))) := Kp.set
            have tf := kf.tups (sq _ _ hus4)
            refine ⟨us ++ [V.ref q], _, _, _, rfl, upd_same, by simp; omega, fun u hu => ?_, (S4.keep sq).keep' kf nfr.symm, fun b o' e nb => kf _ _ (sq _ _ (k04 _ _ e nb)) (ne_of_none e hf)⟩
            rcases List.mem_append.mp hu with z | z
            · exact (uv4 u z).keep fun b xs h => tf _ _ (sq _ _ h)
            · simp at z
              subst z
              exact ⟨q, lo, hi, rfl, tf _ _ (by rw [upd_same, eo]), h1, h2, h3⟩
          have h1 := hnd_of ex
          have h2 := hnd_of ey
          by_cases lt : i1 < i2
          · exact fin _ i1 i2 (by simp only [HO.tup.injEq, List.cons.injEq, V.int.injEq, and_true]; constructor <;> split <;> omega) lt (by omega) (by rw [h1, h2]; exact eh)
          · exact fin _ i2 i1 (by simp only [HO.tup.injEq, List.cons.injEq, V.int.injEq, and_true]; constructor <;> split <;> omega) (by omega) (by omega) (by rw [h1, h2]; exact fun z => eh z.symm)
    · rintro σ H2 ⟨us, x1, x2, x3, rfl, hus, ul, uv, S2, k2⟩
      exact ⟨_, rfl, k f us H2 hf hus (by omega) uv S2 k2⟩
def spMixed (K : PySem.W.Frag) : Sp := fun vs H Q _ => ∃ (r p : Addr) (ws : List Tch) (us : List V), vs = [.ref r, .ref p] ∧ SpringOk H r ∧ H p = some (.lst us) ∧ p ≠ r ∧ us.length ≤ 46000 ∧ (∀ u ∈ us, PrV ws H u) ∧ ∀ (s : Addr) (us' : List V) H', H s = none → H' s = some (.lst us') → us'.length ≤ 2 * us.length → (∀ u ∈ us', PrV ws H' u) → SpringOk H' r → Kp r H H' → Q (.ref s) H'
theorem ok_Lmixed {f : Addr} {fd : FuncData} (F : Fun K "_law_mixed" "_law_mixed" s_Lmixed f fd) (F_Ldraw : FnAt P w K mg base 1 "_law_draw" ["spring", "many"] (spDraw K)) (Bt : Blt mg) : FnOk P w K mg base CX0 2 f fd ["spring", "pairs"] (spMixed K) := by
  refine F.ok sc_Lmixed (fun vs H Q E h => ?_) (fun cdv A outer s H vs Q E hr h => ?_)
  · obtain ⟨r, p, ws, us, rfl, _⟩ := h
    rfl
  · obtain ⟨r, p, ws, us, rfl, S0, hp, npr, ul, uv, k⟩ := h
    have hu64 := hr.units
    refine ⟨_, (pss_cons (ps_set (i := 2) sc_Lmixed.nd rfl (Or.inl rfl) (pe_lst pa_nil))
      (pss_cons (ps_for PassesOwn.never rfl (pi_listK (K := K) rfl (pv 1)) (pg_name (i := 3) sc_Lmixed.nd rfl (Or.inr rfl))
      (pss_cons (ps_set (i := 4) sc_Lmixed.nd rfl (Or.inl rfl) (pe_fn F_Ldraw (hr.mono (by decide)) (by rfl) (pa_cons (pv 0) (pa_cons (pe_op op_add (pe_callB (call_len_seqK (K := K) rfl) (by rfl) Bt.b_len bt_len (pa_cons (pv 2) pa_nil)) pe_int) pa_nil))))
      (pss_cons (ps_set (i := 5) sc_Lmixed.nd rfl (Or.inl rfl) (pe_callTy call_int1 (by rfl) Bt.b_int bt_int (pa_cons (pe_cmpR op_eq (pe_fn F_Ldraw (hr.mono (by decide)) (by rfl) (pa_cons (pv 0) (pa_cons pe_int pa_nil))) pe_int (nomark _)) pa_nil)))
      (pss_one (ps_set (i := 2) sc_Lmixed.nd rfl (Or.inl rfl) (pe_op op_cat (pe_op op_cat (pe_slice (sl_listK (K := K) rfl) (pv 2) po_none (po_some (pv 4))) (pe_comp rfl (N := ["again", "pair"]) (own := ["again"]) (caps := [3]) (CompScope.of (by kernel_rfl)) (pi_range1 (by rfl) Bt.b_range (pa_cons (pe_op op_add pe_int (pv 5)) pa_nil)) (fun _ _ _ _ => (pg_name (i := 0) (show List.Nodup (["again", "pair"] : List Str) by decide +kernel) rfl (Or.inl rfl))) (fun _ _ _ _ => pts_nil) (fun _ _ _ _ => (pv 1)))) (pe_slice (sl_listK (K := K) rfl) (pv 2) (po_some (pv 4)) po_none)))))))
      (pss_one (ps_ret (pv 2))))), ?_⟩
    refine ⟨(by show 0 ≤ sizeLine; decide), fun f hf => ?_⟩
    have s1 := same_new (o := HO.lst []) hf
    refine ⟨_, rfl, p, rfl, ⟨_, SqL.of (s1 _ _ hp)⟩, ?_⟩
    refine for_list (K := K) (a := p) (xs := us) (fun i σ H2 => ∃ (g : Addr) (vs : List V) (x1 x2 x3 : Option V), σ = [some (.ref r), some (.ref p), some (.ref g), x1, x2, x3] ∧ H g = none ∧ H2 g = some (.lst vs) ∧ vs.length ≤ 2 * i ∧ (∀ u ∈ vs, u ∈ us) ∧ SpringOk H2 r ∧ Kp r H H2)
      ⟨f, [], none, none, none, rfl, hf, upd_same, Nat.le_refl _, by simp, S0.keep s1, .of_same s1⟩ (fun i σ H2 _ ⟨_, _, _, _, _, _, _, _, _, _, _, kp⟩ => SqL.of (kp _ _ hp npr)) ?_ ?_
    · rintro i v σ H2 hi ⟨g, vs, x1, x2, x3, rfl, hg, hvs, vl, vm, S2, k2⟩
      have il := (List.getElem?_eq_some_iff.mp hi).1
      have ngr : g ≠ r := fun z => by subst z; obtain ⟨o, ho⟩ := S0.at; rw [ho] at hg; cases hg
      refine ⟨_, rfl, _, rfl, g, _, rfl, .inl (SqL.of hvs), _, _, rfl, rfl, r, _, rfl, S2, by omega, by omega, fun at1 H3 a0 a1 S3 k3 => ?_⟩
      refine ⟨_, rfl, r, 8, rfl, S3, by decide, by decide, fun z H4 z0 z1 S4 k4 => ?_⟩
      refine ⟨rfl, .inr ⟨_, rfl, ?_⟩⟩
      have k24 := k3.trans k4
      have hv4 := k24 _ _ hvs ngr
      obtain ⟨am, rfl⟩ := Int.eq_ofNat_of_zero_le a0
      have tw2 : 0 ≤ (if decide (V.int z = V.int 7) = true then (1 : Int) else 0) ∧ (if decide (V.int z = V.int 7) = true then (1 : Int) else 0) ≤ 1 := by split <;> omega
      generalize (if decide (V.int z = V.int 7) = true then (1 : Int) else 0) = tw at tw2 ⊢
      refine ⟨_, rfl, _, rfl, _, rfl, g, _, rfl, SqL.of hv4, fun p1 hp1 => ?_⟩
      rw [cut_take]
      have u1 := same_new (o := HO.lst (vs.take am)) hp1
      refine ⟨_, rfl, _, _, rfl, rfl, _, rfl, by omega, by omega, fun D hD => ?_⟩
      refine comp_valR (fun _ => some v) hD (by omega) (fun m H5 G F' hm s5 kG kF => ⟨_, rfl, kF _ _ (Same.refl _) rfl⟩) (fun H5 s5 e5 => ?_)
      have dl : ((List.range (1 + tw).toNat).filterMap fun _ => some v).length ≤ 2 := Nat.le_trans (fm_len _ _) (by omega)
      have dm : ∀ u ∈ (List.range (1 + tw).toNat).filterMap (fun _ => some v), u = v := fun u hu => by
        obtain ⟨_, _, e⟩ := List.mem_filterMap.mp hu
        exact (Option.some.inj e).symm
      generalize (List.range (1 + tw).toNat).filterMap (fun _ => some v) = ds at e5 dl dm
      have l1 : (vs.take am).length ≤ vs.length := by rw [List.length_take]; omega
      have l12 : (vs.take am).length + (vs.drop am).length = vs.length := by rw [List.length_take, List.length_drop]; omega
      refine ⟨p1, D, _, _, rfl, rfl, s5 _ _ upd_same, e5, by rw [sizeLine_eq]; omega, fun p3 hp3 => ?_⟩
      have u3 := same_new (o := HO.lst (vs.take am ++ ds)) hp3
      have u13 := (u1.trans s5).trans u3
      refine ⟨_, rfl, _, rfl, _, rfl, g, _, rfl, SqL.of (u13 _ _ hv4), fun p4 hp4 => ?_⟩
      rw [cut_drop]
      have u4 := same_new (o := HO.lst (vs.drop am)) hp4
      refine ⟨p3, p4, _, _, rfl, rfl, u4 _ _ upd_same, upd_same, by rw [sizeLine_eq, List.length_append]; omega, fun p5 hp5 => ?_⟩
      have u5 := same_new (o := HO.lst ((vs.take am ++ ds) ++ vs.drop am)) hp5
      have u14 := u13.trans u4
      have k04 := k2.trans k24
      refine ⟨p5, _, _, _, _, rfl, Kp.new (k04.trans (.of_same u14)) hp5 (S4.keep u14).at, upd_same, by rw [List.length_append, List.length_append]; omega, fun u hu => ?_, S4.keep (u14.trans u5), k04.trans (.of_same (u14.trans u5))⟩
      rcases List.mem_append.mp hu with z | z
      · rcases List.mem_append.mp z with z | z
        · exact vm u (List.mem_of_mem_take z)
        · rw [dm u z]; exact List.mem_of_getElem? hi
      · exact vm u (List.mem_of_mem_drop z)
    · rintro σ H2 ⟨g, vs, x1, x2, x3, rfl, hg, hvs, vl, vm, S2, k2⟩
      exact ⟨_, rfl, k g vs H2 hg hvs vl (fun u hu => (uv u (vm u hu)).keep (S0.tups k2)) S2 k2⟩
def spLater (K : PySem.W.Frag) : Sp := fun vs H Q _ => ∃ (r a t : Addr) (ws : List Tch) (i j : Nat), vs = [.ref r, .ref a, .ref t] ∧ SpringOk H r ∧ WebAt H a ws ∧ a ≠ r ∧ ws.length ≤ 300 ∧ H t = some (.tup [.int (i : Int), .int (j : Int)]) ∧ i < j ∧ j < ws.length ∧ ¬ hnd ws i = hnd ws j ∧ ∀ v H', PrV ws H' v → SpringOk H' r → Kp r H H' → Q v H'
theorem ok_Llater {f : Addr} {fd : FuncData} (F : Fun K "_law_later" "_law_later" s_Llater f fd) (F_Ldraw : FnAt P w K mg base 1 "_law_draw" ["spring", "many"] (spDraw K)) (Bt : Blt mg) : FnOk P w K mg base CX0 2 f fd ["spring", "web", "pair"] (spLater K) := by
  refine F.ok sc_Llater (fun vs H Q E h => ?_) (fun cdv A outer s H vs Q E hr h => ?_)
  · obtain ⟨r, a, t, ws, i, j, rfl, _⟩ := h
    rfl
  · obtain ⟨r, a, t, ws, i, j, rfl, S0, W, nar, wl, ht, ij, jl, ne, k⟩ := h
    have hu64 := hr.units
    refine ⟨_, (pss_cons (ps_setC (i := 3) rfl sc_Llater.nd rfl (Or.inl rfl) (N := ["i", "web", "pair"]) (own := ["i"]) (caps := [1, 2]) (CompScope.of (by kernel_rfl)) (pi_range2 (by rfl) Bt.b_range (pa_cons (pe_ix (ix_tupK (K := K) rfl) (pv 2) pe_int (fun _ _ => rfl)) (pa_cons (pe_ix (ix_tupK (K := K) rfl) (pv 2) pe_int (fun _ _ => rfl)) pa_nil))) (fun _ _ _ _ => (pg_name (i := 0) (show List.Nodup (["i", "web", "pair"] : List Str) by decide +kernel) rfl (Or.inl rfl))) (fun _ _ _ _ => (pts_one (pt_cmpR op_eq (pe_ix (ix_tupK (K := K) rfl) (pe_ix (ix_listK (K := K) rfl) (pv 1) (pv 0) (fun _ _ => rfl)) pe_int (fun _ _ => rfl)) (pe_ix (ix_tupK (K := K) rfl) (pe_ix (ix_listK (K := K) rfl) (pv 1) (pe_ix (ix_tupK (K := K) rfl) (pv 2) pe_int (fun _ _ => rfl)) (fun _ _ => rfl)) pe_int (fun _ _ => rfl)) (nomark _)))) (fun _ _ _ _ => (pv 0)))
      (pss_one (ps_ret (pe_tup (pa_cons (pe_ix (ix_listK (K := K) rfl) (pv 3) (pe_fn F_Ldraw (hr.mono (by decide)) (by rfl) (pa_cons (pv 0) (pa_cons (pe_callB (call_len_seqK (K := K) rfl) (by rfl) Bt.b_len bt_len (pa_cons (pv 3) pa_nil)) pa_nil))) (fun _ _ => rfl)) (pa_cons (pe_ix (ix_tupK (K := K) rfl) (pv 2) pe_int (fun _ _ => rfl)) pa_nil)))))), ?_⟩
    refine ⟨_, rfl, _, _, _, _, rfl, rfl, SqT.of ht, rfl, _, rfl, _, _, _, _, rfl, rfl, SqT.of ht, rfl, (i : Int), (j : Int), rfl, ⟨by omega, by omega, by omega, by omega⟩, fun D hD => ?_⟩
    have il : i < ws.length := by omega
    refine comp_range (lo := (i : Int)) (n := _) (fun m σ H2 => (∃ v, σ = [v, some (.ref a), some (.ref t)]) ∧ ∃ zs : List Nat, H2 D = some (.lst ((nI zs).map V.int)) ∧ zs.length ≤ m ∧ (0 < m → zs ≠ []) ∧ (∀ z ∈ zs, i ≤ z ∧ z < i + m ∧ hnd ws z = hnd ws i) ∧ Same H H2)
      ⟨⟨none, rfl⟩, [], upd_same, Nat.le_refl _, fun z => absurd z (Nat.lt_irrefl _), by simp, same_new hD⟩ ?_ ?_
    · rintro m σ H2 hm ⟨⟨v0, rfl⟩, zs, hzs, zl, zn, zm, s2⟩
      have hml : i + m < ws.length := by omega
      obtain ⟨x, ex⟩ : ∃ x, ws[i + m]? = some x := ⟨ws[i + m], by simp [hml]⟩
      obtain ⟨y, ey⟩ : ∃ y, ws[i]? = some y := ⟨ws[i], by simp [il]⟩
      obtain ⟨v4, t1, hv4, et1, ht1⟩ := web_get (W.same s2) ex
      obtain ⟨v4', t2, hv4', et2, ht2⟩ := web_get (W.same s2) ey
      have ev : v4 = v4' := by rw [hv4] at hv4'; injection hv4' with q; injection q
      subst ev
      rw [show (i : Int) + (m : Int) = ((i + m : Nat) : Int) by omega]
      refine ⟨_, rfl, _, rfl, _, _, _, _, rfl, rfl, SqL.of hv4, atI_nat et1, _, _, _, _, rfl, rfl, SqT.of ht1, rfl, _, rfl, _, rfl, _, _, _, _, rfl, rfl, SqT.of (s2 _ _ ht), rfl, _, _, _, _, rfl, rfl, SqL.of hv4, atI_nat et2, _, _, _, _, rfl, rfl, SqT.of ht2, rfl, rfl, _, rfl, ?_⟩
      have h1 := hnd_of ex
      have h2 := hnd_of ey
      by_cases e : x.1 = y.1
      · rw [show decide (V.int x.1 = V.int y.1) = true by simp [e]]
        refine iteT ⟨_, rfl, _, hzs, by rw [List.length_map, nI_len, sizeLine_eq]; omega, ⟨_, rfl⟩, zs ++ [i + m], by rw [upd_same]; simp [nI], by simp; omega, fun _ => by simp, fun z hz => ?_, s2.newly hD⟩
        rcases List.mem_append.mp hz with q | q
        · obtain ⟨q1, q2, q3⟩ := zm z q
          exact ⟨q1, by omega, q3⟩
        · simp at q
          subst q
          exact ⟨by omega, by omega, by rw [h1, h2, e]⟩
      · rw [show decide (V.int x.1 = V.int y.1) = false by simp [e]]
        have m0 : 0 < m := Nat.pos_of_ne_zero fun z => by
          subst z
          rw [Nat.add_zero, ey] at ex
          cases ex
          exact e rfl
        exact iteF ⟨⟨_, rfl⟩, zs, hzs, by omega, fun _ => zn m0, fun z hz => by obtain ⟨q1, q2, q3⟩ := zm z hz; exact ⟨q1, by omega, q3⟩, s2⟩
    · rintro σ H2 ⟨_, zs, hzs, zl, zn, zm, s2⟩
      have zne := zn (by omega)
      have zp : 0 < zs.length := List.length_pos_iff.mpr zne
      have S2 := S0.keep s2
      have nDr : D ≠ r := S0.ne hD
      refine ⟨_, rfl, _, rfl, _, rfl, D, _, rfl, .inl (SqL.of hzs), r, _, rfl, S2, by rw [List.length_map, nI_len]; omega, by rw [List.length_map, nI_len]; omega, fun n H3 n0 n1 S3 k3 => ?_⟩
      rw [List.length_map, nI_len] at n1
      obtain ⟨z, ez⟩ : ∃ z, zs[n.toNat]? = some z := ⟨zs[n.toNat]'(by omega), by simp⟩
      obtain ⟨q1, q2, q3⟩ := zm z (List.mem_of_getElem? ez)
      have eV : ((nI zs).map V.int)[n.toNat]? = some (V.int (z : Int)) := by rw [List.getElem?_map, nI_get ez]; rfl
      refine ⟨_, _, _, _, rfl, rfl, SqL.of (k3 _ _ hzs nDr), (by have := atI_nat eV; rwa [Int.toNat_of_nonneg n0] at this), ?_⟩
      refine ⟨_, rfl, _, _, _, _, rfl, rfl, SqT.of (S2.tups k3 _ _ (s2 _ _ ht)), rfl, (by show 2 ≤ sizeLine; decide), fun q hq => ?_⟩
      exact k _ _ ⟨q, z, j, rfl, upd_same, by omega, jl, by rw [q3]; exact ne⟩ (S3.keep (same_new hq)) (((Kp.of_same s2).trans k3).trans (.of_same (same_new hq)))

def spSome (K : PySem.W.Frag) : Sp := fun vs H Q _ => ∃ (r a p : Addr) (ws : List Tch) (us : List V) (kd : Int), vs = [.ref r, .ref a, .ref p, .int kd] ∧ SpringOk H r ∧ WebAt H a ws ∧ a ≠ r ∧ ws.length ≤ 300 ∧ H p = some (.lst us) ∧ p ≠ r ∧ us.length ≤ 45000 ∧ (∀ u ∈ us, PrV ws H u) ∧ ∀ (s : Addr) (us' : List V) H', H s = none → H' s = some (.lst us') → us'.length ≤ 95000 → (∀ u ∈ us', PrV ws H' u) → SpringOk H' r → Kp r H H' → Q (.ref s) H'
theorem ok_Lsome {f : Addr} {fd : FuncData} (F : Fun K "_law_some" "_law_some" s_Lsome f fd) (F_Ldraw : FnAt P w K mg base 1 "_law_draw" ["spring", "many"] (spDraw K)) (F_Lany : FnAt P w K mg base 2 "_law_any" ["spring", "web", "many"] (spAny K)) (F_Llater : FnAt P w K mg base 2 "_law_later" ["spring", "web", "pair"] (spLater K)) (F_Lmixed : FnAt P w K mg base 2 "_law_mixed" ["spring", "pairs"] (spMixed K)) (Bt : Blt mg) : FnOk P w K mg base CX0 3 f fd ["spring", "web", "pairs", "kind"] (spSome K) := by
  refine F.ok sc_Lsome (fun vs H Q E h => ?_) (fun cdv A outer s H vs Q E hr h => ?_)
  · obtain ⟨r, a, p, ws, us, kd, rfl, _⟩ := h
    rfl
  · obtain ⟨r, a, p, ws, us, kd, rfl, S0, W, nar, wl, hp, npr, ul, uv, k⟩ := h
    have hu64 := hr.units
    refine ⟨_, (pss_cons (ps_set (i := 4) sc_Lsome.nd rfl (Or.inl rfl) (pe_fn F_Lany (hr.mono (by decide)) (by rfl) (pa_cons (pv 0) (pa_cons (pv 1) (pa_cons (pe_op op_mul (pe_fn F_Ldraw (hr.mono (by decide)) (by rfl) (pa_cons (pv 0) (pa_cons (pe_ix (ix_listK (K := K) rfl) (pe_lst (pa_cons pe_int (pa_cons pe_int pa_nil))) (pe_op op_fdiv (pe_fn F_Ldraw (hr.mono (by decide)) (by rfl) (pa_cons (pv 0) (pa_cons pe_int pa_nil))) pe_int) (fun _ _ => rfl)) pa_nil))) (pe_op op_mod (pv 3) pe_int)) pa_nil)))))
      (pss_cons (ps_set (i := 5) sc_Lsome.nd rfl (Or.inl rfl) (pe_fn F_Ldraw (hr.mono (by decide)) (by rfl) (pa_cons (pv 0) (pa_cons (pe_callB (call_max2 rfl) (by rfl) Bt.b_max bt_max (pa_cons pe_int (pa_cons (pe_callB (call_len_seqK (K := K) rfl) (by rfl) Bt.b_len bt_len (pa_cons (pv 2) pa_nil)) pa_nil))) pa_nil))))
      (pss_cons (ps_set (i := 6) sc_Lsome.nd rfl (Or.inl rfl) (pe_callTy (call_list_ofK (K := K) rfl) (by rfl) Bt.b_list bt_list (pa_cons (pv 2) pa_nil)))
      (pss_cons (ps_if (pt_cmpR op_eq (pe_op op_fdiv (pv 3) pe_int) pe_int (nomark _)) (pss_one (ps_set (i := 6) sc_Lsome.nd rfl (Or.inl rfl) (pe_op op_cat (pe_slice (sl_listK (K := K) rfl) (pv 2) po_none (po_some (pv 5))) (pe_slice (sl_listK (K := K) rfl) (pv 2) (po_some (pe_op op_add (pv 5) pe_int)) po_none)))) (pss_one (ps_if (pt_cmpR op_eq (pe_op op_fdiv (pv 3) pe_int) pe_int (nomark _)) (pss_one (ps_setC (i := 6) rfl sc_Lsome.nd rfl (Or.inl rfl) (N := ["pair", "spring"]) (own := ["pair"]) (caps := [0]) (CompScope.of (by kernel_rfl)) (pi_listK (K := K) rfl (pv 2)) (fun _ _ _ _ => (pg_name (i := 0) (show List.Nodup (["pair", "spring"] : List Str) by decide +kernel) rfl (Or.inl rfl))) (fun _ _ _ _ => (pts_one (pt_cmpR op_gt (pe_fn F_Ldraw (hr.mono (by decide)) (by rfl) (pa_cons (pv 1) (pa_cons pe_int pa_nil))) pe_int (nomark _)))) (fun _ _ _ _ => (pv 0)))) (pss_one (ps_if (pt_cmpR op_eq (pe_op op_fdiv (pv 3) pe_int) pe_int (nomark _)) (pss_one (ps_setC (i := 6) rfl sc_Lsome.nd rfl (Or.inl rfl) (N := ["pair", "spring", "web"]) (own := ["pair"]) (caps := [0, 1]) (CompScope.of (by kernel_rfl)) (pi_listK (K := K) rfl (pv 2)) (fun _ _ _ _ => (pg_name (i := 0) (show List.Nodup (["pair", "spring", "web"] : List Str) by decide +kernel) rfl (Or.inl rfl))) (fun _ _ _ _ => pts_nil) (fun _ _ _ _ => (pe_fn F_Llater (hr.mono (by decide)) (by rfl) (pa_cons (pv 1) (pa_cons (pv 2) (pa_cons (pv 0) pa_nil))))))) pss_nil)))))
      (pss_one (ps_ret (pe_fn F_Lmixed (hr.mono (by decide)) (by rfl) (pa_cons (pv 0) (pa_cons (pe_op op_cat (pv 6) (pv 4)) pa_nil))))))))), ?_⟩
    -- more
    refine ⟨_, rfl, _, rfl, _, rfl, (by show 2 ≤ sizeLine; decide), fun l hl => ?_⟩
    have u1 := same_new (o := HO.lst [V.int 9, V.int 301]) hl
    have nlr : l ≠ r := S0.ne hl
    refine ⟨_, rfl, r, 8, rfl, S0.keep u1, by decide, by decide, fun z H2 z0 z1 S2 k2 => ?_⟩
    refine ⟨_, _, rfl, rfl, (by show CDiv _ 7; exact ⟨by decide, by decide⟩), ?_⟩
    obtain ⟨v, ev, v0, v1⟩ : ∃ v : Int, atI [V.int 9, V.int 301] (z / 7) = some (V.int v) ∧ 0 < v ∧ v ≤ 301 := by
      have : z / 7 = 0 ∨ z / 7 = 1 := by omega
      rcases this with e | e <;> rw [e]
      · exact ⟨9, rfl, by decide, by decide⟩
      · exact ⟨301, rfl, by decide, by decide⟩
    refine ⟨_, _, _, _, rfl, rfl, SqL.of (k2 _ _ upd_same nlr), ev, r, v, rfl, S2, v0, by omega, fun n H3 n0 n1 S3 k3 => ?_⟩
    have k03 : Kp r H H3 := ((Kp.of_same u1).trans k2).trans k3
    clear k2 k3 S2 u1
    have e2 : kd % 2 = 0 ∨ kd % 2 = 1 := by omega
    have b2 : 0 ≤ n * (kd % 2) ∧ n * (kd % 2) ≤ 300 := by rcases e2 with e | e <;> rw [e] <;> omega
    refine ⟨_, rfl, _, _, rfl, rfl, (by show (0 : Int) < 2; decide), _, _, rfl, rfl, ?_, r, a, ws, n * (kd % 2), rfl, S3, W.spr S0 k03 nar, nar, wl, b2.1, b2.2, fun mo ms H4 hmo hms ml mv S4 k4 => ?_⟩
    · refine .inr ⟨?_, ?_⟩ <;> rcases e2 with e | e <;> rw [e] <;> omega
    have k04 := k03.trans k4
    have nmr : mo ≠ r := S3.ne hmo
    have hp4 := k04 _ _ hp npr
    have hmo0 : H mo = none := Kp.new k03 hmo S3.at
    clear k03 k4 S3
    have mx : 0 < (if ((us.length : Nat) : Int) > 1 then ((us.length : Nat) : Int) else 1) ∧ (if ((us.length : Nat) : Int) > 1 then ((us.length : Nat) : Int) else 1) < 1073741824 := by split <;> omega
    refine ⟨_, rfl, _, rfl, p, _, rfl, .inl (SqL.of hp4), _, _, rfl, r, _, rfl, S4, mx.1, mx.2, fun at1 H5 a0 a1 S5 k5 => ?_⟩
    obtain ⟨am, rfl⟩ := Int.eq_ofNat_of_zero_le a0
    have k05 := k04.trans k5
    have hp5 := k05 _ _ hp npr
    have hm5 := k5 _ _ hms nmr
    have mv5 : ∀ u ∈ ms, PrV ws H5 u := fun u hu => (mv u hu).keep (S4.tups k5)
    clear mx k5 S4 hp4 hms mv a1
    -- list(pairs)
    refine ⟨_, rfl, p, _, rfl, .inl (SqL.of hp5), fun s6 hs6 => ?_⟩
    have u6 := same_new (o := HO.lst us) hs6
    have hs60 : H s6 = none := Kp.new k05 hs6 S5.at
    have hs6' : (upd H5 s6 (.lst us)) s6 = some (.lst us) := upd_same
    have S6 := S5.keep u6
    have k06 := k05.trans (.of_same u6)
    have hm6 := u6 _ _ hm5
    have hp6 := u6 _ _ hp5
    have mv6 : ∀ u ∈ ms, PrV ws (upd H5 s6 (.lst us)) u := fun u hu => (mv5 u hu).keep u6.tups
    generalize upd H5 s6 (.lst us) = H6 at hs6' S6 k06 hm6 hp6 mv6
    clear u6 k05 S5 hp5 hm5 mv5
    have uv6 : ∀ {HX}, Kp r H HX → ∀ u ∈ us, PrV ws HX u := fun kx u hu => (uv u hu).keep (S0.tups kx)
    dsimp only
    refine seq_cps (fun σ H7 => ∃ (s : Addr) (vs : List V), σ = [some (.ref r), some (.ref a), some (.ref p), some (.int kd), some (.ref mo), some (.int (am : Int)), some (.ref s)] ∧ H7 s = some (.lst vs) ∧ vs.length ≤ 45000 ∧ (∀ u ∈ vs, PrV ws H7 u) ∧ SpringOk H7 r ∧ Kp r H6 H7) (fun D' hD' hrt => ?_) ?_
    · refine ⟨_, rfl, _, _, rfl, rfl, (by show CDiv _ 2; exact ⟨by decide, by decide⟩), rfl, _, rfl, ?_⟩
      refine ite2 (fun _ => ?_) (fun _ => ?_)
      · refine ⟨_, rfl, _, rfl, _, rfl, p, _, rfl, SqL.of hp6, fun p3 hp3 => ?_⟩
        have u3 := same_new (o := HO.lst (cutV us none (some (am : Int)))) hp3
        refine ⟨_, rfl, _, rfl, _, _, rfl, rfl, _, rfl, p, _, rfl, SqL.of (u3 _ _ hp6), fun p4 hp4 => ?_⟩
        have u4 := same_new (o := HO.lst (cutV us (some ((am : Int) + 1)) none)) hp4
        have l34 : (cutV us none (some (am : Int))).length + (cutV us (some ((am : Int) + 1)) none).length ≤ us.length := by
          rw [cut_take, show (am : Int) + 1 = ((am + 1 : Nat) : Int) from rfl, cut_drop, List.length_take, List.length_drop]
          omega
        refine ⟨p3, p4, _, _, rfl, rfl, u4 _ _ upd_same, upd_same, by rw [sizeLine_eq]; omega, fun p5 hp5 => ?_⟩
        have u5 := same_new (o := HO.lst (cutV us none (some (am : Int)) ++ cutV us (some ((am : Int) + 1)) none)) hp5
        have u35 := (u3.trans u4).trans u5
        refine hD' _ _ ⟨p5, _, rfl, upd_same, by rw [List.length_append]; omega, fun u hu => ?_, S6.keep u35, .of_same u35⟩
        refine uv6 (k06.trans (.of_same u35)) u ?_
        rcases List.mem_append.mp hu with q | q <;> exact mem_cutV q
      refine ⟨_, rfl, _, _, rfl, rfl, (by show CDiv _ 2; exact ⟨by decide, by decide⟩), rfl, _, rfl, ?_⟩
      refine ite2 (fun _ => ?_) (fun _ => ?_)
      · refine ⟨_, rfl, p, rfl, ⟨_, SqL.of hp6⟩, fun D hD => ?_⟩
        have nDr : D ≠ r := S6.ne hD
        refine comp_list (K := K) (a := p) (xs := us) (fun i σ H7 => (∃ v, σ = [v, some (.ref r)]) ∧ ∃ vs : List V, H7 D = some (.lst vs) ∧ vs.length ≤ i ∧ (∀ u ∈ vs, u ∈ us) ∧ SpringOk H7 r ∧ Kp r H6 H7)
          ⟨⟨none, rfl⟩, [], upd_same, Nat.le_refl _, by simp, S6.keep (same_new hD), .of_same (same_new hD)⟩ (fun i σ H7 _ ⟨_, _, _, _, _, _, kp⟩ => SqL.of (kp _ _ hp6 npr)) ?_ (fun σ H7 h7 => ?_)
        · rintro i v σ H7 hi ⟨⟨v0, rfl⟩, vs, hvs, vl, vm, S7, k7⟩
          have il := (List.getElem?_eq_some_iff.mp hi).1
          refine ⟨_, rfl, r, _, rfl, S7, by decide, by decide, fun n H8 n0 n1 S8 k8 => ?_⟩
          have hvs8 := k8 _ _ hvs nDr
          refine ⟨_, _, rfl, rfl, _, rfl, ?_⟩
          refine ite2 (fun _ => ?_) (fun _ => ?_)
          · refine ⟨_, rfl, ?_⟩
            have kD : Kp D H8 (upd H8 D (.lst (vs ++ [v]))) := Kp.set
            refine ⟨vs, hvs8, by rw [sizeLine_eq]; omega, ⟨_, rfl⟩, vs ++ [v], upd_same, by simp; omega, fun u hu => ?_, S8.keep' kD nDr.symm, fun b o e nb => kD _ _ ((k7.trans k8) _ _ e nb) (ne_of_none e hD)⟩
            rcases List.mem_append.mp hu with q | q
            · exact vm u q
            · simp at q; subst q; exact List.mem_of_getElem? hi
          · exact ⟨⟨_, rfl⟩, vs, hvs8, by omega, vm, S8, k7.trans k8⟩
        · obtain ⟨_, vs, hvs, vl, vm, S7, k7⟩ := h7
          exact hD' _ _ ⟨D, vs, rfl, hvs, by omega, fun u hu => uv6 (k06.trans k7) u (vm u hu), S7, k7⟩
      refine ⟨_, rfl, _, _, rfl, rfl, (by show CDiv _ 2; exact ⟨by decide, by decide⟩), rfl, _, rfl, ?_⟩
      refine ite2 (fun _ => ?_) (fun _ => hD' _ _ ⟨s6, us, rfl, hs6', ul, uv6 k06, S6, Kp.refl _ _⟩)
      refine ⟨_, rfl, p, rfl, ⟨_, SqL.of hp6⟩, fun D hD => ?_⟩
      have nDr : D ≠ r := S6.ne hD
      refine comp_list (K := K) (a := p) (xs := us) (fun i σ H7 => (∃ v, σ = [v, some (.ref r), some (.ref a)]) ∧ ∃ vs : List V, H7 D = some (.lst vs) ∧ vs.length ≤ i ∧ (∀ u ∈ vs, PrV ws H7 u) ∧ SpringOk H7 r ∧ Kp r H6 H7)
        ⟨⟨none, rfl⟩, [], upd_same, Nat.le_refl _, by simp, S6.keep (same_new hD), .of_same (same_new hD)⟩ (fun i σ H7 _ ⟨_, _, _, _, _, _, kp⟩ => SqL.of (kp _ _ hp6 npr)) ?_ (fun σ H7 h7 => ?_)
      · rintro i v σ H7 hi ⟨⟨v0, rfl⟩, vs, hvs, vl, vm, S7, k7⟩
        have il := (List.getElem?_eq_some_iff.mp hi).1
        obtain ⟨tt, i', j', rfl, htt, q1, q2, q3⟩ := uv6 (k06.trans k7) v (List.mem_of_getElem? hi)
        refine ⟨_, rfl, _, rfl, _, rfl, r, a, tt, ws, i', j', rfl, S7, W.spr S0 (k06.trans k7) nar, nar, wl, htt, q1, q2, q3, fun v' H8 pv S8 k8 => ?_⟩
        have hvs8 := k8 _ _ hvs nDr
        have kD : Kp D H8 (upd H8 D (.lst (vs ++ [v']))) := Kp.set
        have tD := kD.tups hvs8
        refine ⟨vs, hvs8, by rw [sizeLine_eq]; omega, ⟨_, rfl⟩, vs ++ [v'], upd_same, by simp; omega, fun u hu => ?_, S8.keep' kD nDr.symm, fun b o e nb => kD _ _ ((k7.trans k8) _ _ e nb) (ne_of_none e hD)⟩
        rcases List.mem_append.mp hu with q | q
        · exact ((vm u q).keep (S7.tups k8)).keep tD
        · simp at q; subst q; exact pv.keep tD
      · obtain ⟨_, vs, hvs, vl, vm, S7, k7⟩ := h7
        exact hD' _ _ ⟨D, vs, rfl, hvs, by omega, vm, S7, k7⟩
    rintro σ H7 ⟨s, vs, rfl, hvs, vl, vm, S7, k7⟩
    have hm7 := k7 _ _ hm6 nmr
    refine ⟨_, rfl, _, rfl, _, rfl, s, mo, _, _, rfl, rfl, hvs, hm7, by rw [sizeLine_eq]; omega, fun p8 hp8 => ?_⟩
    have u8 := same_new (o := HO.lst (vs ++ ms)) hp8
    have k07 := k06.trans k7
    refine ⟨r, p8, ws, vs ++ ms, rfl, S7.keep u8, upd_same, S7.ne hp8, by rw [List.length_append]; omega, fun u hu => ?_, fun s9 ws9 H9 hs9 hw9 wl9 wv9 S9 k9 => ?_⟩
    · rcases List.mem_append.mp hu with q | q
      · exact (vm u q).keep u8.tups
      · exact ((mv6 u q).keep (S6.tups k7)).keep u8.tups
    · exact k s9 ws9 H9 (Kp.new (k07.trans (.of_same u8)) hs9 (S7.keep u8).at) hw9 (by rw [List.length_append] at wl9; omega) wv9 S9 ((k07.trans (.of_same u8)).trans k9)

def hD (ws : List Tch) (ns : List Nt) : PyData := .tuple [.list (ws.map tD), .list (ns.map nD)]
theorem dat_hD {H : Hp} {t a b : Addr} {ws : List Tch} {ns : List Nt} (ht : H t = some (.tup [.ref a, .ref b])) (W : WebAt H a ws) (B : NtsAt H b ns) : Dat H (.ref t) (hD ws ns) := by
  obtain ⟨vs, ha, dv⟩ := W
  obtain ⟨us, hb, du⟩ := B
  simp only [hD, Dat]
  refine ⟨t, _, rfl, ht, ?_⟩
  simp only [Dats, and_true]
  exact ⟨dat_list ha dv, dat_list hb du⟩
theorem shaped_hD {ws : List Tch} (ok : ∀ x ∈ ws, TchOk x) (ns : List Nt) : SeqAt.shaped (hD ws ns) = true := by
  have e1 := shaped_web ok
  have e2 := shaped_nts ns
  simp only [SeqAt.shaped, PyData.depth, PyData.depthAll, PyData.canLay0, PyData.canLayAll0, hD, Bool.and_eq_true, decide_eq_true_eq, Bool.and_true] at e1 e2 ⊢
  have d1 : PyData.depthAll (ns.map nD) ≤ 1 := depthAll_map _ 1 ns (fun _ _ => by show (max 0 (max 0 (max 0 (max 0 0)))) + 1 ≤ 1; decide)
  have d2 : PyData.depthAll (ws.map tD) ≤ 1 := depthAll_map _ 1 ws (fun _ _ => by show (max 0 (max 0 (max 0 0))) + 1 ≤ 1; decide)
  refine ⟨?_, ?_⟩ <;> first | (clear e2 e1; omega) | exact ⟨e1.1, e2.1⟩ | exact ⟨e1.2, e2.2⟩
theorem eqv_hD (ws : List Tch) (ns : List Nt) : PyData.eqv (hD ws ns) (hD ws ns) = true := by
  simp only [hD, PyData.eqv, PyData.eqvAll, Bool.and_true]
  have e1 := eqv_list tD eqv_tD ws ws
  have e2 := eqv_list nD eqv_nD ns ns
  simp only [PyData.eqv] at e1 e2
  rw [e1, e2]
  simp

/-! ### the law -/
theorem PrOk.str {ws : List Tch} {ps : List Prs} (ok : PrOk ws ps) : ∀ x ∈ prN ws ps, StrP ws x := fun x hx => by
  unfold prN at hx
  obtain ⟨y, hy, rfl⟩ := List.mem_map.mp hx
  obtain ⟨i, j, rfl, h1, h2, h3⟩ := ok y hy
  exact ⟨i, j, h3, nm_at (Nat.lt_trans h1 h2), nm_at h2, h1⟩
theorem comp_named {K : PySem.W.Frag} {c s D : Addr} {H1 : Hp} {Q : VK} {ws : List Tch} {ps : List Prs} (C : PrsAt H1 c (nm ws)) (Ps : PrsAt H1 s ps) (ok : PrOk ws ps) (pl : ps.length ≤ 95000) (hD : H1 D = none) (k : ∀ H', NtsAt H' D (prN ws ps) → Same H1 H' → Q (.ref D) H') :
    CompW (Itl K s) (gTup K 2 (gCons (gName 0) (gCons (gName 1) gNil))) tAll (tOp (rCatT K) (tOp (rIxL K) (tVar 2) (tVar 0)) (tOp (rIxL K) (tVar 2) (tVar 1))) Q D [none, none, some (.ref c)] H1 := by
  obtain ⟨pv, hpv, dpv⟩ := id Ps
  have pvl : pv.length = ps.length := by rw [dpv.length, List.length_map]
  refine comp_datP (K := K) (fun i => (ps[i]?).bind fun x => some (nD (noteAt ws x.1.toNat x.2.toNat))) (fun i d h => ?_) hD hpv (by omega) (fun i v hi => ?_) (fun i t x y H6 G F' hi ht s6 kG kF => ?_) (fun H6 us s6 e6 d6 => ?_)
  · cases e : ps[i]? with
    | none => rw [e] at h; cases h
    | some z => rw [e] at h; cases h; rfl
  · obtain ⟨x, t, _, rfl, ht⟩ := prs_get dpv hi
    exact ⟨t, _, _, rfl, ht⟩
  · obtain ⟨z, t', ez, et, ht'⟩ := prs_get dpv hi
    cases et
    rw [ht] at ht'
    injection ht' with q
    injection q with q
    injection q with q1 q2
    injection q2 with q2 _
    subst q1 q2
    obtain ⟨i1, j1, rfl, l1, l2, _⟩ := ok z (List.mem_of_getElem? ez)
    obtain ⟨cv, c1, hcv, ec1, hc1⟩ := prs_at (C.same s6) (nm_at (Nat.lt_trans l1 l2))
    obtain ⟨cv', c2, hcv', ec2, hc2⟩ := prs_at (C.same s6) (nm_at l2)
    have ev : cv = cv' := by rw [hcv] at hcv'; injection hcv' with q; injection q
    subst ev
    refine ⟨_, rfl, _, rfl, _, _, _, _, rfl, rfl, SqL.of hcv, atI_nat ec1, _, rfl, _, rfl, _, _, _, _, rfl, rfl, SqL.of hcv, atI_nat ec2, c1, c2, _, _, rfl, rfl, SqT.of hc1, SqT.of hc2, by simp, by show 4 ≤ sizeLine; decide, fun z => absurd z (by simp), fun _ q hq => ?_⟩
    exact kF _ (nD (noteAt ws i1 j1)) _ (same_new hq) (by rw [ez]; rfl) (dat_nt (x := noteAt ws i1 j1) upd_same)
  · refine k H6 ⟨us, e6, ?_⟩ s6
    rw [pvl, fm_get] at d6
    unfold prN
    rw [List.map_map, ← List.filterMap_eq_map]
    exact d6
theorem mem_lP {ws : List Tch} {x : Prs} (h : x ∈ lPairs ws ws.length) : ∃ i j, x = prI i j ∧ i < j ∧ j < ws.length ∧ ¬ hnd ws i = hnd ws j := by
  unfold lPairs at h
  obtain ⟨j, hj, h⟩ := List.mem_flatMap.mp h
  obtain ⟨i, hi, rfl⟩ := List.mem_map.mp h
  unfold bUp at hi
  have hi := List.mem_filter.mp hi
  have b := of_decide_eq_true hi.2
  exact ⟨i, j, rfl, List.mem_range.mp hi.1, List.mem_range.mp hj, b.2⟩
theorem lP_len2 (ws : List Tch) : ∀ n, 2 * (lPairs ws n).length ≤ n * n
  | 0 => Nat.le_refl _
  | n + 1 => by
    rw [lPairs_succ, List.length_append, List.length_map]
    have h1 := lP_len2 ws n
    have h2 := bUp_len ws n n
    have : (n + 1) * (n + 1) = n * n + n + n + 1 := by rw [Nat.add_mul, Nat.mul_add]; omega
    omega
def spLaw (K : PySem.W.Frag) : Sp := fun vs H Q _ => ∃ (a : Addr) (ns : List Int), vs = [.ref a] ∧ SqL K H a (ns.map V.int) ∧ ns.length ≤ 63 ∧ ∀ H', Q (.bl true) H'
theorem ok_law {f : Addr} {fd : FuncData} (F : Fun K "law" "law" s_law f fd) (F_Lspring : FnAt P w K mg base 1 "_law_spring" ["script"] (spSpring K)) (F_Ldraw : FnAt P w K mg base 1 "_law_draw" ["spring", "many"] (spDraw K)) (F_Lweb : FnAt P w K mg base 2 "_law_web" ["spring", "most"] (spWeb K)) (F_Lcalls : FnAt P w K mg base 1 "_law_calls" ["web"] (spCalls K)) (F_Ltable : FnAt P w K mg base 3 "_law_table" ["web", "calls"] (spTable K)) (F_Lnotes : FnAt P w K mg base 3 "_law_notes" ["web", "calls", "table"] (spLnotes K)) (F_Lsome : FnAt P w K mg base 3 "_law_some" ["spring", "web", "pairs", "kind"] (spSome K)) (F_enough : FnAt P w K mg base 5 "enough" ["web", "some"] (spEn K)) (F_Lenough : FnAt P w K mg base 2 "_law_enough" ["web", "calls", "some"] (spLen K)) (Bt : Blt mg) : FnOk P w K mg base CX0 6 f fd ["script"] (spLaw K) := by
  refine F.ok sc_law (fun vs H Q E h => ?_) (fun cdv A outer s H vs Q E hr h => ?_)
  · obtain ⟨a, ns, rfl, _⟩ := h
    rfl
  · obtain ⟨sa, sns, rfl, hS, hlen, k⟩ := h
    have hu64 := hr.units
    refine ⟨_, (pss_cons (ps_set (i := 1) sc_law.nd rfl (Or.inr rfl) (pe_fn F_Lspring (hr.mono (by decide)) (by rfl) (pa_cons (pv 0) pa_nil)))
      (pss_cons (ps_setC (i := 2) rfl sc_law.nd rfl (Or.inl rfl) (N := ["again", "spring"]) (own := ["again"]) (caps := [1]) (CompScope.of (by kernel_rfl)) (pi_range1 (by rfl) Bt.b_range (pa_cons (pe_op op_add pe_int (pe_callB (call_min2 rfl) (by rfl) Bt.b_min bt_min (pa_cons (pe_callB (call_len_seqK (K := K) rfl) (by rfl) Bt.b_len bt_len (pa_cons (pv 0) pa_nil)) (pa_cons pe_int pa_nil)))) pa_nil)) (fun _ _ _ _ => (pg_name (i := 0) (show List.Nodup (["again", "spring"] : List Str) by decide +kernel) rfl (Or.inl rfl))) (fun _ _ _ _ => pts_nil) (fun _ _ _ _ => (pe_fn F_Ldraw (hr.mono (by decide)) (by rfl) (pa_cons (pv 1) (pa_cons pe_int pa_nil)))))
      (pss_cons (ps_set (i := 3) sc_law.nd rfl (Or.inl rfl) (pe_fn F_Lweb (hr.mono (by decide)) (by rfl) (pa_cons (pv 1) (pa_cons pe_int pa_nil))))
      (pss_cons (ps_set (i := 4) sc_law.nd rfl (Or.inr rfl) (pe_fn F_Lcalls (hr.mono (by decide)) (by rfl) (pa_cons (pv 3) pa_nil)))
      (pss_cons (ps_set (i := 5) sc_law.nd rfl (Or.inl rfl) (pe_fn F_Lnotes (hr.mono (by decide)) (by rfl) (pa_cons (pv 3) (pa_cons (pv 4) (pa_cons (pe_fn F_Ltable (hr.mono (by decide)) (by rfl) (pa_cons (pv 3) (pa_cons (pv 4) pa_nil))) pa_nil)))))
      (pss_cons (ps_for PassesOwn.never rfl (pi_listK (K := K) rfl (pv 2)) (pg_name (i := 6) sc_law.nd rfl (Or.inl rfl))
      (pss_cons (ps_set (i := 7) sc_law.nd rfl (Or.inl rfl) (pe_fn F_Lsome (hr.mono (by decide)) (by rfl) (pa_cons (pv 1) (pa_cons (pv 3) (pa_cons (pv 5) (pa_cons (pv 6) pa_nil))))))
      (pss_cons (ps_set (i := 8) sc_law.nd rfl (Or.inl rfl) (pe_tup (pa_cons (pe_callTy (call_list_ofK (K := K) rfl) (by rfl) Bt.b_list bt_list (pa_cons (pv 3) pa_nil)) (pa_cons (pe_comp rfl (N := ["i", "j", "calls"]) (own := ["i", "j"]) (caps := [4]) (CompScope.of (by kernel_rfl)) (pi_listK (K := K) rfl (pv 7)) (fun _ _ _ _ => (pg_tupK (K := K) (n := 2) rfl rfl (pgs_cons (pg_name (i := 0) (show List.Nodup (["i", "j", "calls"] : List Str) by decide +kernel) rfl (Or.inl rfl)) (pgs_cons (pg_name (i := 1) (show List.Nodup (["i", "j", "calls"] : List Str) by decide +kernel) rfl (Or.inl rfl)) pgs_nil)))) (fun _ _ _ _ => pts_nil) (fun _ _ _ _ => (pe_op (op_catTK (K := K) rfl) (pe_ix (ix_listK (K := K) rfl) (pv 2) (pv 0) (fun _ _ => rfl)) (pe_ix (ix_listK (K := K) rfl) (pv 2) (pv 1) (fun _ _ => rfl))))) pa_nil))))
      (pss_cons (ps_set (i := 9) sc_law.nd rfl (Or.inl rfl) (pe_fn F_enough (hr.mono (by decide)) (by rfl) (pa_cons (pe_ix (ix_tupK (K := K) rfl) (pv 8) pe_int (fun _ _ => rfl)) (pa_cons (pe_ix (ix_tupK (K := K) rfl) (pv 8) pe_int (fun _ _ => rfl)) pa_nil))))
      (pss_cons (ps_if (PW.pt (pw_or (pt_not (pt_val (pe_callB (call_isiK (K := K) (cv := .ty "bool") (c := .type "bool") rfl rfl) (by rfl) Bt.b_isinstance bt_isinstance (pa_cons (pv 9) (pa_cons (pe_bltn (v := .ty "bool") (by rfl) Bt.b_bool bt_bool rfl) pa_nil))))) (pw_or1 (pt_cmpR op_ne (pv 9) (pe_fn F_Lenough (hr.mono (by decide)) (by rfl) (pa_cons (pv 3) (pa_cons (pv 4) (pa_cons (pv 7) pa_nil)))) (nomark _))))) (pss_one (ps_ret pe_bl)) pss_nil)
      (pss_one (ps_if (pt_cmpR (op_neDK (K := K) rfl hu64) (pv 8) (pe_tup (pa_cons (pv 3) (pa_cons (pe_comp rfl (N := ["i", "j", "calls"]) (own := ["i", "j"]) (caps := [4]) (CompScope.of (by kernel_rfl)) (pi_listK (K := K) rfl (pv 7)) (fun _ _ _ _ => (pg_tupK (K := K) (n := 2) rfl rfl (pgs_cons (pg_name (i := 0) (show List.Nodup (["i", "j", "calls"] : List Str) by decide +kernel) rfl (Or.inl rfl)) (pgs_cons (pg_name (i := 1) (show List.Nodup (["i", "j", "calls"] : List Str) by decide +kernel) rfl (Or.inl rfl)) pgs_nil)))) (fun _ _ _ _ => pts_nil) (fun _ _ _ _ => (pe_op (op_catTK (K := K) rfl) (pe_ix (ix_listK (K := K) rfl) (pv 2) (pv 0) (fun _ _ => rfl)) (pe_ix (ix_listK (K := K) rfl) (pv 2) (pv 1) (fun _ _ => rfl))))) pa_nil))) (nomark _)) (pss_one (ps_ret pe_bl)) pss_nil)))))))
      (pss_one (ps_ret pe_bl)))))))), ?_⟩
    refine ⟨_, rfl, sa, sns, rfl, hS, hlen, fun r H1 hr1 S1 sm1 => ?_⟩
    refine ⟨_, rfl, sa, _, rfl, .inl (sm1.seq hS), _, _, rfl, _, _, rfl, rfl, _, rfl, ?_, ?_, fun D hD => ?_⟩
    · rw [List.length_map]; split <;> omega
    · rw [List.length_map]; split <;> omega
    have few : ((1 + (if (5 : Int) < ((sns.map V.int).length : Int) then 5 else ((sns.map V.int).length : Int))).toNat : Nat) ≤ 6 := by rw [List.length_map]; split <;> omega
    refine comp_sprR hD S1 (by omega) (fun i H2 F hi k2 S2 kF => ?_) (fun H2 zs zl e2 k2 S2 => ?_)
    · exact ⟨_, rfl, r, 8, rfl, S2, by decide, by decide, fun z H3 z0 z1 S3 k3 => kF _ H3 k3 S3⟩
    have nDr := S1.ne hD
    refine ⟨_, rfl, r, 300, rfl, S2, by decide, by decide, fun w ws H3 hw W ok wl S3 k3 => ?_⟩
    have nwr : w ≠ r := S2.ne hw
    have okh : ∀ x ∈ ws, 0 ≤ x.1 ∧ x.1 < 8 := fun x hx => (ok x hx).1
    have e3 := k3 _ _ e2 nDr
    refine ⟨_, rfl, w, ws, rfl, W, ok, wl, fun c H4 hc C4 s4 => ?_⟩
    have ncr := S3.ne hc
    refine ⟨_, rfl, _, rfl, _, rfl, _, rfl, w, c, ws, rfl, W.same s4, C4, ok, wl, fun t H5 T5 s5 => ?_⟩
    refine ⟨w, c, t, ws, H4, rfl, (W.same s4).same s5, C4.same s5, T5, ok, wl, fun pr H6 hpr P6 s6 => ?_⟩
    have s36 := (s4.trans s5).trans s6
    have S6 := S3.keep s36
    have npr : pr ≠ r := (S3.keep (s4.trans s5)).ne hpr
    have st6 : SpringOk H6 r ∧ WebAt H6 w ws ∧ PrsAt H6 c (nm ws) ∧ PrsAt H6 pr (lPairs ws ws.length) ∧ H6 D = some (.lst (zs.map V.int)) := ⟨S6, W.same s36, (C4.same s5).same s6, P6, s36 _ _ e3⟩
    have ll := lP_len2 ws ws.length
    have nn : ws.length * ws.length ≤ 300 * 300 := Nat.mul_le_mul wl wl
    refine ⟨_, rfl, D, rfl, ⟨_, SqL.of st6.2.2.2.2⟩, ?_⟩
    refine for_list (K := K) (a := D) (xs := zs.map V.int) (fun i σ H7 => ∃ (x1 x2 x3 x4 : Option V), σ = [some (.ref sa), some (.ref r), some (.ref D), some (.ref w), some (.ref c), some (.ref pr), x1, x2, x3, x4] ∧ SpringOk H7 r ∧ WebAt H7 w ws ∧ PrsAt H7 c (nm ws) ∧ PrsAt H7 pr (lPairs ws ws.length) ∧ H7 D = some (.lst (zs.map V.int)))
      ⟨none, none, none, none, rfl, st6⟩ (fun i σ H7 _ ⟨_, _, _, _, _, _, _, _, _, q⟩ => SqL.of q) ?_ (fun σ H7 _ => k H7)
    rintro i v σ H7 hi ⟨x1, x2, x3, x4, rfl, S7, W7, C7, P7, e7⟩
    obtain ⟨kd, rfl⟩ : ∃ kd, v = V.int kd := by
      rw [List.getElem?_map] at hi
      cases e : zs[i]? with
      | none => rw [e] at hi; cases hi
      | some z => rw [e] at hi; exact ⟨z, (Option.some.inj hi).symm⟩
    clear st6 S6 P6 s36 s4 s5 s6 T5 C4 W S3 k3 e3 k2 S2 few zl e2 hw hc hpr
    obtain ⟨pv, hpv, dpv⟩ := id P7
    have pvl : pv.length = (lPairs ws ws.length).length := by rw [dpv.length, List.length_map]
    -- some
    refine ⟨_, rfl, _, rfl, _, rfl, _, rfl, r, w, pr, ws, pv, kd, rfl, S7, W7, nwr, wl, hpv, npr, by omega, prs_prv dpv fun x hx => mem_lP hx, fun s us H8 hs hus ul uv S8 k8 => ?_⟩
    obtain ⟨ps, dps, psl, pok⟩ := prv_prs us uv
    have Ps8 : PrsAt H8 s ps := ⟨us, hus, dps⟩
    have W8 := W7.spr S7 k8 nwr
    have C8 := C7.spr S7 k8 ncr
    have P8 := P7.spr S7 k8 npr
    have e8 := k8 _ _ e7 nDr
    have pl : ps.length ≤ 95000 := by omega
    clear hpv dpv pvl S7 W7 C7 P7 e7 k8
    -- handed
    obtain ⟨wv, hwv, dwv⟩ := id W8
    refine ⟨_, rfl, w, _, rfl, .inl (SqL.of hwv), fun q1 hq1 => ?_⟩
    have u1 := same_new (o := HO.lst wv) hq1
    have Q1 : WebAt (upd H8 q1 (.lst wv)) q1 ws := ⟨wv, upd_same, Dats.keep u1.tups _ (imms_map _ imm_tD ws) dwv⟩
    refine ⟨_, rfl, s, rfl, ⟨_, SqL.of (u1 _ _ hus)⟩, fun q2 hq2 => ?_⟩
    refine comp_named (C8.same u1) (Ps8.same u1) pok pl hq2 fun H9 N9 u9 => ?_
    refine ⟨(by show 2 ≤ sizeLine; decide), fun hd hhd => ?_⟩
    have u10 := same_new (o := HO.tup [V.ref q1, V.ref q2]) hhd
    have u910 := u9.trans u10
    have u810 := u1.trans u910
    have Q1' := Q1.same u910
    have Q2' := N9.same u10
    have Qh : (upd H9 hd (.tup [V.ref q1, V.ref q2])) hd = some (.tup [V.ref q1, V.ref q2]) := upd_same
    generalize upd H9 hd (.tup [V.ref q1, V.ref q2]) = HA at u810 Q1' Q2' Qh
    clear u1 u9 u10 u910 Q1 N9 hwv dwv
    -- found
    have nl : (prN ws ps).length ≤ 95000 := by unfold prN; rw [List.length_map]; exact pl
    refine ⟨_, rfl, _, _, _, _, rfl, rfl, SqT.of Qh, rfl, _, rfl, _, _, _, _, rfl, rfl, SqT.of Qh, rfl, q1, q2, ws, prN ws ps, rfl, Q1', wl, okh, Q2', nl, pok.str, fun b HB hb sB => ?_⟩
    have u8B := u810.trans sB
    refine ⟨_, rfl, _, _, true, rfl, .bl _, isi_bool_bool K, true, rfl, ?_⟩
    refine (show if false = true then _ else _ from iteF ?_)
    refine ⟨_, rfl, _, rfl, _, rfl, _, rfl, w, c, s, ws, ps, rfl, W8.same u8B, C8.same u8B, Ps8.same u8B, pl, pok, ok, wl, fun b2 HC hb2 sC => ?_⟩
    have eb : b = b2 := by rw [Bool.eq_iff_iff, hb, hb2]
    subst eb
    refine ⟨rfl, _, rfl, ?_⟩
    rw [show (!decide (V.bl b = V.bl b)) = false by simp]
    refine (show if false = true then _ else _ from iteF ?_)
    have sAC := sB.trans sC
    have u8C := u810.trans sAC
    unfold tNext
    dsimp only
    -- handed != (web, ..)
    refine ⟨_, rfl, _, rfl, _, rfl, s, rfl, ⟨_, SqL.of (u8C _ _ hus)⟩, fun q3 hq3 => ?_⟩
    refine comp_named (C8.same u8C) (Ps8.same u8C) pok pl hq3 fun HD ND uD => ?_
    refine ⟨(by show 2 ≤ sizeLine; decide), fun v1 hv1 => ?_⟩
    have uE := same_new (o := HO.tup [V.ref w, V.ref q3]) hv1
    have uDE := uD.trans uE
    have sAE := sAC.trans uDE
    have u8E := u8C.trans uDE
    refine ⟨_, _, dat_hD (sAE _ _ Qh) (Q1'.same sAE) (Q2'.same sAE), dat_hD upd_same (W8.same u8E) (ND.same uE), shaped_hD ok _, shaped_hD ok _, _, rfl, ?_⟩
    rw [if_pos rfl, eqv_hD]
    refine (show if false = true then _ else _ from iteF ?_)
    exact ⟨_, _, _, _, rfl, S8.keep u8E, W8.same u8E, C8.same u8E, P8.same u8E, u8E _ _ e8⟩

end
theorem len0 {us : List Value} (h : us.length = 0) : us = [] := List.eq_nil_of_length_eq_zero h
theorem lenS {us : List Value} {n : Nat} (h : us.length = n + 1) : ∃ a vs, us = a :: vs ∧ vs.length = n := by
  cases us with
  | nil => cases h
  | cons a t => exact ⟨a, t, rfl, Nat.succ.inj h⟩
theorem bi_Lspring (kV doc pm : Value) (an : Option Addr) (cdv ct : Value) (us : List Value) (hl : us.length = (["script"] : List Str).length) : bindArgs (PySem.W.fnOf "_law_spring" "_law_spring" (defArgs s_Lspring) (defBody s_Lspring) (defScope s_Lspring) .none kV doc pm an cdv ct) ⟨us, []⟩ = pure ((["script"] : List Str).zip us) := by obtain ⟨_, _, rfl, h1⟩ := lenS hl; cases len0 h1; rfl
theorem bi_Ldraw (kV doc pm : Value) (an : Option Addr) (cdv ct : Value) (us : List Value) (hl : us.length = (["spring", "many"] : List Str).length) : bindArgs (PySem.W.fnOf "_law_draw" "_law_draw" (defArgs s_Ldraw) (defBody s_Ldraw) (defScope s_Ldraw) .none kV doc pm an cdv ct) ⟨us, []⟩ = pure ((["spring", "many"] : List Str).zip us) := by obtain ⟨_, _, rfl, h1⟩ := lenS hl; obtain ⟨_, _, rfl, h2⟩ := lenS h1; cases len0 h2; rfl
theorem bi_Lweb (kV doc pm : Value) (an : Option Addr) (cdv ct : Value) (us : List Value) (hl : us.length = (["spring", "most"] : List Str).length) : bindArgs (PySem.W.fnOf "_law_web" "_law_web" (defArgs s_Lweb) (defBody s_Lweb) (defScope s_Lweb) .none kV doc pm an cdv ct) ⟨us, []⟩ = pure ((["spring", "most"] : List Str).zip us) := by obtain ⟨_, _, rfl, h1⟩ := lenS hl; obtain ⟨_, _, rfl, h2⟩ := lenS h1; cases len0 h2; rfl
theorem bi_is_whole (kV doc pm : Value) (an : Option Addr) (cdv ct : Value) (us : List Value) (hl : us.length = (["value"] : List Str).length) : bindArgs (PySem.W.fnOf "is_whole" "is_whole" (defArgs s_is_whole) (defBody s_is_whole) (defScope s_is_whole) .none kV doc pm an cdv ct) ⟨us, []⟩ = pure ((["value"] : List Str).zip us) := by obtain ⟨_, _, rfl, h1⟩ := lenS hl; cases len0 h1; rfl
theorem bi_names (kV doc pm : Value) (an : Option Addr) (cdv ct : Value) (us : List Value) (hl : us.length = (["web"] : List Str).length) : bindArgs (PySem.W.fnOf "names" "names" (defArgs s_names) (defBody s_names) (defScope s_names) .none kV doc pm an cdv ct) ⟨us, []⟩ = pure ((["web"] : List Str).zip us) := by obtain ⟨_, _, rfl, h1⟩ := lenS hl; cases len0 h1; rfl
theorem bi_touches_meet (kV doc pm : Value) (an : Option Addr) (cdv ct : Value) (us : List Value) (hl : us.length = (["one", "other"] : List Str).length) : bindArgs (PySem.W.fnOf "touches_meet" "touches_meet" (defArgs s_touches_meet) (defBody s_touches_meet) (defScope s_touches_meet) .none kV doc pm an cdv ct) ⟨us, []⟩ = pure ((["one", "other"] : List Str).zip us) := by obtain ⟨_, _, rfl, h1⟩ := lenS hl; obtain ⟨_, _, rfl, h2⟩ := lenS h1; cases len0 h2; rfl
theorem bi_is_known (kV doc pm : Value) (an : Option Addr) (cdv ct : Value) (us : List Value) (hl : us.length = (["name", "known"] : List Str).length) : bindArgs (PySem.W.fnOf "is_known" "is_known" (defArgs s_is_known) (defBody s_is_known) (defScope s_is_known) .none kV doc pm an cdv ct) ⟨us, []⟩ = pure ((["name", "known"] : List Str).zip us) := by obtain ⟨_, _, rfl, h1⟩ := lenS hl; obtain ⟨_, _, rfl, h2⟩ := lenS h1; cases len0 h2; rfl
theorem bi_learn (kV doc pm : Value) (an : Option Addr) (cdv ct : Value) (us : List Value) (hl : us.length = (["known", "more"] : List Str).length) : bindArgs (PySem.W.fnOf "learn" "learn" (defArgs s_learn) (defBody s_learn) (defScope s_learn) .none kV doc pm an cdv ct) ⟨us, []⟩ = pure ((["known", "more"] : List Str).zip us) := by obtain ⟨_, _, rfl, h1⟩ := lenS hl; obtain ⟨_, _, rfl, h2⟩ := lenS h1; cases len0 h2; rfl
theorem bi_is_note (kV doc pm : Value) (an : Option Addr) (cdv ct : Value) (us : List Value) (hl : us.length = (["value"] : List Str).length) : bindArgs (PySem.W.fnOf "is_note" "is_note" (defArgs s_is_note) (defBody s_is_note) (defScope s_is_note) .none kV doc pm an cdv ct) ⟨us, []⟩ = pure ((["value"] : List Str).zip us) := by obtain ⟨_, _, rfl, h1⟩ := lenS hl; cases len0 h1; rfl
theorem bi_places_of (kV doc pm : Value) (an : Option Addr) (cdv ct : Value) (us : List Value) (hl : us.length = (["web"] : List Str).length) : bindArgs (PySem.W.fnOf "places_of" "places_of" (defArgs s_places_of) (defBody s_places_of) (defScope s_places_of) .none kV doc pm an cdv ct) ⟨us, []⟩ = pure ((["web"] : List Str).zip us) := by obtain ⟨_, _, rfl, h1⟩ := lenS hl; cases len0 h1; rfl
theorem bi_is_strict (kV doc pm : Value) (an : Option Addr) (cdv ct : Value) (us : List Value) (hl : us.length = (["places", "note"] : List Str).length) : bindArgs (PySem.W.fnOf "is_strict" "is_strict" (defArgs s_is_strict) (defBody s_is_strict) (defScope s_is_strict) .none kV doc pm an cdv ct) ⟨us, []⟩ = pure ((["places", "note"] : List Str).zip us) := by obtain ⟨_, _, rfl, h1⟩ := lenS hl; obtain ⟨_, _, rfl, h2⟩ := lenS h1; cases len0 h2; rfl
theorem bi_check_strict (kV doc pm : Value) (an : Option Addr) (cdv ct : Value) (us : List Value) (hl : us.length = (["places", "some"] : List Str).length) : bindArgs (PySem.W.fnOf "check_strict" "check_strict" (defArgs s_check_strict) (defBody s_check_strict) (defScope s_check_strict) .none kV doc pm an cdv ct) ⟨us, []⟩ = pure ((["places", "some"] : List Str).zip us) := by obtain ⟨_, _, rfl, h1⟩ := lenS hl; obtain ⟨_, _, rfl, h2⟩ := lenS h1; cases len0 h2; rfl
theorem bi_steps_by (kV doc pm : Value) (an : Option Addr) (cdv ct : Value) (us : List Value) (hl : us.length = (["places", "some"] : List Str).length) : bindArgs (PySem.W.fnOf "steps_by" "steps_by" (defArgs s_steps_by) (defBody s_steps_by) (defScope s_steps_by) .none kV doc pm an cdv ct) ⟨us, []⟩ = pure ((["places", "some"] : List Str).zip us) := by obtain ⟨_, _, rfl, h1⟩ := lenS hl; obtain ⟨_, _, rfl, h2⟩ := lenS h1; cases len0 h2; rfl
theorem bi_knowns_by (kV doc pm : Value) (an : Option Addr) (cdv ct : Value) (us : List Value) (hl : us.length = (["named", "steps"] : List Str).length) : bindArgs (PySem.W.fnOf "knowns_by" "knowns_by" (defArgs s_knowns_by) (defBody s_knowns_by) (defScope s_knowns_by) .none kV doc pm an cdv ct) ⟨us, []⟩ = pure ((["named", "steps"] : List Str).zip us) := by obtain ⟨_, _, rfl, h1⟩ := lenS hl; obtain ⟨_, _, rfl, h2⟩ := lenS h1; cases len0 h2; rfl
theorem bi_enough (kV doc pm : Value) (an : Option Addr) (cdv ct : Value) (us : List Value) (hl : us.length = (["web", "some"] : List Str).length) : bindArgs (PySem.W.fnOf "enough" "enough" (defArgs s_enough) (defBody s_enough) (defScope s_enough) .none kV doc pm an cdv ct) ⟨us, []⟩ = pure ((["web", "some"] : List Str).zip us) := by obtain ⟨_, _, rfl, h1⟩ := lenS hl; obtain ⟨_, _, rfl, h2⟩ := lenS h1; cases len0 h2; rfl
theorem bi_Lcalls (kV doc pm : Value) (an : Option Addr) (cdv ct : Value) (us : List Value) (hl : us.length = (["web"] : List Str).length) : bindArgs (PySem.W.fnOf "_law_calls" "_law_calls" (defArgs s_Lcalls) (defBody s_Lcalls) (defScope s_Lcalls) .none kV doc pm an cdv ct) ⟨us, []⟩ = pure ((["web"] : List Str).zip us) := by obtain ⟨_, _, rfl, h1⟩ := lenS hl; cases len0 h1; rfl
theorem bi_Lmeets (kV doc pm : Value) (an : Option Addr) (cdv ct : Value) (us : List Value) (hl : us.length = (["one", "other"] : List Str).length) : bindArgs (PySem.W.fnOf "_law_meets" "_law_meets" (defArgs s_Lmeets) (defBody s_Lmeets) (defScope s_Lmeets) .none kV doc pm an cdv ct) ⟨us, []⟩ = pure ((["one", "other"] : List Str).zip us) := by obtain ⟨_, _, rfl, h1⟩ := lenS hl; obtain ⟨_, _, rfl, h2⟩ := lenS h1; cases len0 h2; rfl
theorem bi_Lstep (kV doc pm : Value) (an : Option Addr) (cdv ct : Value) (us : List Value) (hl : us.length = (["one", "other"] : List Str).length) : bindArgs (PySem.W.fnOf "_law_step" "_law_step" (defArgs s_Lstep) (defBody s_Lstep) (defScope s_Lstep) .none kV doc pm an cdv ct) ⟨us, []⟩ = pure ((["one", "other"] : List Str).zip us) := by obtain ⟨_, _, rfl, h1⟩ := lenS hl; obtain ⟨_, _, rfl, h2⟩ := lenS h1; cases len0 h2; rfl
theorem bi_Ltable (kV doc pm : Value) (an : Option Addr) (cdv ct : Value) (us : List Value) (hl : us.length = (["web", "calls"] : List Str).length) : bindArgs (PySem.W.fnOf "_law_table" "_law_table" (defArgs s_Ltable) (defBody s_Ltable) (defScope s_Ltable) .none kV doc pm an cdv ct) ⟨us, []⟩ = pure ((["web", "calls"] : List Str).zip us) := by obtain ⟨_, _, rfl, h1⟩ := lenS hl; obtain ⟨_, _, rfl, h2⟩ := lenS h1; cases len0 h2; rfl
theorem bi_Lnotes (kV doc pm : Value) (an : Option Addr) (cdv ct : Value) (us : List Value) (hl : us.length = (["web", "calls", "table"] : List Str).length) : bindArgs (PySem.W.fnOf "_law_notes" "_law_notes" (defArgs s_Lnotes) (defBody s_Lnotes) (defScope s_Lnotes) .none kV doc pm an cdv ct) ⟨us, []⟩ = pure ((["web", "calls", "table"] : List Str).zip us) := by obtain ⟨_, _, rfl, h1⟩ := lenS hl; obtain ⟨_, _, rfl, h2⟩ := lenS h1; obtain ⟨_, _, rfl, h3⟩ := lenS h2; cases len0 h3; rfl
theorem bi_Lenough (kV doc pm : Value) (an : Option Addr) (cdv ct : Value) (us : List Value) (hl : us.length = (["web", "calls", "some"] : List Str).length) : bindArgs (PySem.W.fnOf "_law_enough" "_law_enough" (defArgs s_Lenough) (defBody s_Lenough) (defScope s_Lenough) .none kV doc pm an cdv ct) ⟨us, []⟩ = pure ((["web", "calls", "some"] : List Str).zip us) := by obtain ⟨_, _, rfl, h1⟩ := lenS hl; obtain ⟨_, _, rfl, h2⟩ := lenS h1; obtain ⟨_, _, rfl, h3⟩ := lenS h2; cases len0 h3; rfl
theorem bi_Llater (kV doc pm : Value) (an : Option Addr) (cdv ct : Value) (us : List Value) (hl : us.length = (["spring", "web", "pair"] : List Str).length) : bindArgs (PySem.W.fnOf "_law_later" "_law_later" (defArgs s_Llater) (defBody s_Llater) (defScope s_Llater) .none kV doc pm an cdv ct) ⟨us, []⟩ = pure ((["spring", "web", "pair"] : List Str).zip us) := by obtain ⟨_, _, rfl, h1⟩ := lenS hl; obtain ⟨_, _, rfl, h2⟩ := lenS h1; obtain ⟨_, _, rfl, h3⟩ := lenS h2; cases len0 h3; rfl
theorem bi_Lany (kV doc pm : Value) (an : Option Addr) (cdv ct : Value) (us : List Value) (hl : us.length = (["spring", "web", "many"] : List Str).length) : bindArgs (PySem.W.fnOf "_law_any" "_law_any" (defArgs s_Lany) (defBody s_Lany) (defScope s_Lany) .none kV doc pm an cdv ct) ⟨us, []⟩ = pure ((["spring", "web", "many"] : List Str).zip us) := by obtain ⟨_, _, rfl, h1⟩ := lenS hl; obtain ⟨_, _, rfl, h2⟩ := lenS h1; obtain ⟨_, _, rfl, h3⟩ := lenS h2; cases len0 h3; rfl
theorem bi_Lmixed (kV doc pm : Value) (an : Option Addr) (cdv ct : Value) (us : List Value) (hl : us.length = (["spring", "pairs"] : List Str).length) : bindArgs (PySem.W.fnOf "_law_mixed" "_law_mixed" (defArgs s_Lmixed) (defBody s_Lmixed) (defScope s_Lmixed) .none kV doc pm an cdv ct) ⟨us, []⟩ = pure ((["spring", "pairs"] : List Str).zip us) := by obtain ⟨_, _, rfl, h1⟩ := lenS hl; obtain ⟨_, _, rfl, h2⟩ := lenS h1; cases len0 h2; rfl
theorem bi_Lsome (kV doc pm : Value) (an : Option Addr) (cdv ct : Value) (us : List Value) (hl : us.length = (["spring", "web", "pairs", "kind"] : List Str).length) : bindArgs (PySem.W.fnOf "_law_some" "_law_some" (defArgs s_Lsome) (defBody s_Lsome) (defScope s_Lsome) .none kV doc pm an cdv ct) ⟨us, []⟩ = pure ((["spring", "web", "pairs", "kind"] : List Str).zip us) := by obtain ⟨_, _, rfl, h1⟩ := lenS hl; obtain ⟨_, _, rfl, h2⟩ := lenS h1; obtain ⟨_, _, rfl, h3⟩ := lenS h2; obtain ⟨_, _, rfl, h4⟩ := lenS h3; cases len0 h4; rfl
theorem all_mk {l : PySem.W.OpenLaw} {w : World} {K : PySem.W.Frag} {h : Heap} {mg : Str → Option Value} {fa f0 f1 f2 f3 f4 f5 f6 f7 f8 f9 f10 f11 f12 f13 f14 f15 f16 f17 f18 f19 f20 f21 f22 f23 f24 f25 : Addr} (X : K.In h) (G : h.Ns mainGlobals mg) (hfa : mg "law" = some (.ref fa))
    {od0 an0 od1 an1 od2 an2 od3 an3 od4 an4 od5 an5 od6 an6 od7 an7 od8 an8 od9 an9 od10 an10 od11 an11 od12 an12 od13 an13 od14 an14 od15 an15 od16 an16 od17 an17 od18 an18 od19 an19 od20 an20 od21 an21 od22 an22 od23 an23 od24 an24 od25 an25 : Option Addr} {sl0 sl1 sl2 sl3 sl4 sl5 sl6 sl7 sl8 sl9 sl10 sl11 sl12 sl13 sl14 sl15 sl16 sl17 sl18 sl19 sl20 sl21 sl22 sl23 sl24 sl25 : Array (Option Value)} {oc0 kV0 dc0 pm0 cd0 ct0 oc1 kV1 dc1 pm1 cd1 ct1 oc2 kV2 dc2 pm2 cd2 ct2 oc3 kV3 dc3 pm3 cd3 ct3 oc4 kV4 dc4 pm4 cd4 ct4 oc5 kV5 dc5 pm5 cd5 ct5 oc6 kV6 dc6 pm6 cd6 ct6 oc7 kV7 dc7 pm7 cd7 ct7 oc8 kV8 dc8 pm8 cd8 ct8 oc9 kV9 dc9 pm9 cd9 ct9 oc10 kV10 dc10 pm10 cd10 ct10 oc11 kV11 dc11 pm11 cd11 ct11 oc12 kV12 dc12 pm12 cd12 ct12 oc13 kV13 dc13 pm13 cd13 ct13 oc14 kV14 dc14 pm14 cd14 ct14 oc15 kV15 dc15 pm15 cd15 ct15 oc16 kV16 dc16 pm16 cd16 ct16 oc17 kV17 dc17 pm17 cd17 ct17 oc18 kV18 dc18 pm18 cd18 ct18 oc19 kV19 dc19 pm19 cd19 ct19 oc20 kV20 dc20 pm20 cd20 ct20 oc21 kV21 dc21 pm21 cd21 ct21 oc22 kV22 dc22 pm22 cd22 ct22 oc23 kV23 dc23 pm23 cd23 ct23 oc24 kV24 dc24 pm24 cd24 ct24 oc25 kV25 dc25 pm25 cd25 ct25 : Value}
    (a0 : PySem.W.nsIn K mainGlobals "_law_spring" = some (some (.ref f0))) (l0 : K.lookup f0 = some ⟨oc0, od0, .func (PySem.W.fnOf "_law_spring" "_law_spring" (defArgs s_Lspring) (defBody s_Lspring) (defScope s_Lspring) .none kV0 dc0 pm0 an0 cd0 ct0), sl0⟩) (c0 : PySem.W.codeIn K cd0 "_law_spring" = true) (k0 : PySem.W.keepIn K (.ref f0) = true)
    (a1 : PySem.W.nsIn K mainGlobals "_law_draw" = some (some (.ref f1))) (l1 : K.lookup f1 = some ⟨oc1, od1, .func (PySem.W.fnOf "_law_draw" "_law_draw" (defArgs s_Ldraw) (defBody s_Ldraw) (defScope s_Ldraw) .none kV1 dc1 pm1 an1 cd1 ct1), sl1⟩) (c1 : PySem.W.codeIn K cd1 "_law_draw" = true) (k1 : PySem.W.keepIn K (.ref f1) = true)
    (a2 : PySem.W.nsIn K mainGlobals "_law_web" = some (some (.ref f2))) (l2 : K.lookup f2 = some ⟨oc2, od2, .func (PySem.W.fnOf "_law_web" "_law_web" (defArgs s_Lweb) (defBody s_Lweb) (defScope s_Lweb) .none kV2 dc2 pm2 an2 cd2 ct2), sl2⟩) (c2 : PySem.W.codeIn K cd2 "_law_web" = true) (k2 : PySem.W.keepIn K (.ref f2) = true)
    (a3 : PySem.W.nsIn K mainGlobals "is_whole" = some (some (.ref f3))) (l3 : K.lookup f3 = some ⟨oc3, od3, .func (PySem.W.fnOf "is_whole" "is_whole" (defArgs s_is_whole) (defBody s_is_whole) (defScope s_is_whole) .none kV3 dc3 pm3 an3 cd3 ct3), sl3⟩) (c3 : PySem.W.codeIn K cd3 "is_whole" = true) (k3 : PySem.W.keepIn K (.ref f3) = true)
    (a4 : PySem.W.nsIn K mainGlobals "names" = some (some (.ref f4))) (l4 : K.lookup f4 = some ⟨oc4, od4, .func (PySem.W.fnOf "names" "names" (defArgs s_names) (defBody s_names) (defScope s_names) .none kV4 dc4 pm4 an4 cd4 ct4), sl4⟩) (c4 : PySem.W.codeIn K cd4 "names" = true) (k4 : PySem.W.keepIn K (.ref f4) = true)
    (a5 : PySem.W.nsIn K mainGlobals "touches_meet" = some (some (.ref f5))) (l5 : K.lookup f5 = some ⟨oc5, od5, .func (PySem.W.fnOf "touches_meet" "touches_meet" (defArgs s_touches_meet) (defBody s_touches_meet) (defScope s_touches_meet) .none kV5 dc5 pm5 an5 cd5 ct5), sl5⟩) (c5 : PySem.W.codeIn K cd5 "touches_meet" = true) (k5 : PySem.W.keepIn K (.ref f5) = true)
    (a6 : PySem.W.nsIn K mainGlobals "is_known" = some (some (.ref f6))) (l6 : K.lookup f6 = some ⟨oc6, od6, .func (PySem.W.fnOf "is_known" "is_known" (defArgs s_is_known) (defBody s_is_known) (defScope s_is_known) .none kV6 dc6 pm6 an6 cd6 ct6), sl6⟩) (c6 : PySem.W.codeIn K cd6 "is_known" = true) (k6 : PySem.W.keepIn K (.ref f6) = true)
    (a7 : PySem.W.nsIn K mainGlobals "learn" = some (some (.ref f7))) (l7 : K.lookup f7 = some ⟨oc7, od7, .func (PySem.W.fnOf "learn" "learn" (defArgs s_learn) (defBody s_learn) (defScope s_learn) .none kV7 dc7 pm7 an7 cd7 ct7), sl7⟩) (c7 : PySem.W.codeIn K cd7 "learn" = true) (k7 : PySem.W.keepIn K (.ref f7) = true)
    (a8 : PySem.W.nsIn K mainGlobals "is_note" = some (some (.ref f8))) (l8 : K.lookup f8 = some ⟨oc8, od8, .func (PySem.W.fnOf "is_note" "is_note" (defArgs s_is_note) (defBody s_is_note) (defScope s_is_note) .none kV8 dc8 pm8 an8 cd8 ct8), sl8⟩) (c8 : PySem.W.codeIn K cd8 "is_note" = true) (k8 : PySem.W.keepIn K (.ref f8) = true)
    (a9 : PySem.W.nsIn K mainGlobals "places_of" = some (some (.ref f9))) (l9 : K.lookup f9 = some ⟨oc9, od9, .func (PySem.W.fnOf "places_of" "places_of" (defArgs s_places_of) (defBody s_places_of) (defScope s_places_of) .none kV9 dc9 pm9 an9 cd9 ct9), sl9⟩) (c9 : PySem.W.codeIn K cd9 "places_of" = true) (k9 : PySem.W.keepIn K (.ref f9) = true)
    (a10 : PySem.W.nsIn K mainGlobals "is_strict" = some (some (.ref f10))) (l10 : K.lookup f10 = some ⟨oc10, od10, .func (PySem.W.fnOf "is_strict" "is_strict" (defArgs s_is_strict) (defBody s_is_strict) (defScope s_is_strict) .none kV10 dc10 pm10 an10 cd10 ct10), sl10⟩) (c10 : PySem.W.codeIn K cd10 "is_strict" = true) (k10 : PySem.W.keepIn K (.ref f10) = true)
    (a11 : PySem.W.nsIn K mainGlobals "check_strict" = some (some (.ref f11))) (l11 : K.lookup f11 = some ⟨oc11, od11, .func (PySem.W.fnOf "check_strict" "check_strict" (defArgs s_check_strict) (defBody s_check_strict) (defScope s_check_strict) .none kV11 dc11 pm11 an11 cd11 ct11), sl11⟩) (c11 : PySem.W.codeIn K cd11 "check_strict" = true) (k11 : PySem.W.keepIn K (.ref f11) = true)
    (a12 : PySem.W.nsIn K mainGlobals "steps_by" = some (some (.ref f12))) (l12 : K.lookup f12 = some ⟨oc12, od12, .func (PySem.W.fnOf "steps_by" "steps_by" (defArgs s_steps_by) (defBody s_steps_by) (defScope s_steps_by) .none kV12 dc12 pm12 an12 cd12 ct12), sl12⟩) (c12 : PySem.W.codeIn K cd12 "steps_by" = true) (k12 : PySem.W.keepIn K (.ref f12) = true)
    (a13 : PySem.W.nsIn K mainGlobals "knowns_by" = some (some (.ref f13))) (l13 : K.lookup f13 = some ⟨oc13, od13, .func (PySem.W.fnOf "knowns_by" "knowns_by" (defArgs s_knowns_by) (defBody s_knowns_by) (defScope s_knowns_by) .none kV13 dc13 pm13 an13 cd13 ct13), sl13⟩) (c13 : PySem.W.codeIn K cd13 "knowns_by" = true) (k13 : PySem.W.keepIn K (.ref f13) = true)
    (a14 : PySem.W.nsIn K mainGlobals "enough" = some (some (.ref f14))) (l14 : K.lookup f14 = some ⟨oc14, od14, .func (PySem.W.fnOf "enough" "enough" (defArgs s_enough) (defBody s_enough) (defScope s_enough) .none kV14 dc14 pm14 an14 cd14 ct14), sl14⟩) (c14 : PySem.W.codeIn K cd14 "enough" = true) (k14 : PySem.W.keepIn K (.ref f14) = true)
    (a15 : PySem.W.nsIn K mainGlobals "_law_calls" = some (some (.ref f15))) (l15 : K.lookup f15 = some ⟨oc15, od15, .func (PySem.W.fnOf "_law_calls" "_law_calls" (defArgs s_Lcalls) (defBody s_Lcalls) (defScope s_Lcalls) .none kV15 dc15 pm15 an15 cd15 ct15), sl15⟩) (c15 : PySem.W.codeIn K cd15 "_law_calls" = true) (k15 : PySem.W.keepIn K (.ref f15) = true)
    (a16 : PySem.W.nsIn K mainGlobals "_law_meets" = some (some (.ref f16))) (l16 : K.lookup f16 = some ⟨oc16, od16, .func (PySem.W.fnOf "_law_meets" "_law_meets" (defArgs s_Lmeets) (defBody s_Lmeets) (defScope s_Lmeets) .none kV16 dc16 pm16 an16 cd16 ct16), sl16⟩) (c16 : PySem.W.codeIn K cd16 "_law_meets" = true) (k16 : PySem.W.keepIn K (.ref f16) = true)
    (a17 : PySem.W.nsIn K mainGlobals "_law_step" = some (some (.ref f17))) (l17 : K.lookup f17 = some ⟨oc17, od17, .func (PySem.W.fnOf "_law_step" "_law_step" (defArgs s_Lstep) (defBody s_Lstep) (defScope s_Lstep) .none kV17 dc17 pm17 an17 cd17 ct17), sl17⟩) (c17 : PySem.W.codeIn K cd17 "_law_step" = true) (k17 : PySem.W.keepIn K (.ref f17) = true)
    (a18 : PySem.W.nsIn K mainGlobals "_law_table" = some (some (.ref f18))) (l18 : K.lookup f18 = some ⟨oc18, od18, .func (PySem.W.fnOf "_law_table" "_law_table" (defArgs s_Ltable) (defBody s_Ltable) (defScope s_Ltable) .none kV18 dc18 pm18 an18 cd18 ct18), sl18⟩) (c18 : PySem.W.codeIn K cd18 "_law_table" = true) (k18 : PySem.W.keepIn K (.ref f18) = true)
    (a19 : PySem.W.nsIn K mainGlobals "_law_notes" = some (some (.ref f19))) (l19 : K.lookup f19 = some ⟨oc19, od19, .func (PySem.W.fnOf "_law_notes" "_law_notes" (defArgs s_Lnotes) (defBody s_Lnotes) (defScope s_Lnotes) .none kV19 dc19 pm19 an19 cd19 ct19), sl19⟩) (c19 : PySem.W.codeIn K cd19 "_law_notes" = true) (k19 : PySem.W.keepIn K (.ref f19) = true)
    (a20 : PySem.W.nsIn K mainGlobals "_law_enough" = some (some (.ref f20))) (l20 : K.lookup f20 = some ⟨oc20, od20, .func (PySem.W.fnOf "_law_enough" "_law_enough" (defArgs s_Lenough) (defBody s_Lenough) (defScope s_Lenough) .none kV20 dc20 pm20 an20 cd20 ct20), sl20⟩) (c20 : PySem.W.codeIn K cd20 "_law_enough" = true) (k20 : PySem.W.keepIn K (.ref f20) = true)
    (a21 : PySem.W.nsIn K mainGlobals "_law_later" = some (some (.ref f21))) (l21 : K.lookup f21 = some ⟨oc21, od21, .func (PySem.W.fnOf "_law_later" "_law_later" (defArgs s_Llater) (defBody s_Llater) (defScope s_Llater) .none kV21 dc21 pm21 an21 cd21 ct21), sl21⟩) (c21 : PySem.W.codeIn K cd21 "_law_later" = true) (k21 : PySem.W.keepIn K (.ref f21) = true)
    (a22 : PySem.W.nsIn K mainGlobals "_law_any" = some (some (.ref f22))) (l22 : K.lookup f22 = some ⟨oc22, od22, .func (PySem.W.fnOf "_law_any" "_law_any" (defArgs s_Lany) (defBody s_Lany) (defScope s_Lany) .none kV22 dc22 pm22 an22 cd22 ct22), sl22⟩) (c22 : PySem.W.codeIn K cd22 "_law_any" = true) (k22 : PySem.W.keepIn K (.ref f22) = true)
    (a23 : PySem.W.nsIn K mainGlobals "_law_mixed" = some (some (.ref f23))) (l23 : K.lookup f23 = some ⟨oc23, od23, .func (PySem.W.fnOf "_law_mixed" "_law_mixed" (defArgs s_Lmixed) (defBody s_Lmixed) (defScope s_Lmixed) .none kV23 dc23 pm23 an23 cd23 ct23), sl23⟩) (c23 : PySem.W.codeIn K cd23 "_law_mixed" = true) (k23 : PySem.W.keepIn K (.ref f23) = true)
    (a24 : PySem.W.nsIn K mainGlobals "_law_some" = some (some (.ref f24))) (l24 : K.lookup f24 = some ⟨oc24, od24, .func (PySem.W.fnOf "_law_some" "_law_some" (defArgs s_Lsome) (defBody s_Lsome) (defScope s_Lsome) .none kV24 dc24 pm24 an24 cd24 ct24), sl24⟩) (c24 : PySem.W.codeIn K cd24 "_law_some" = true) (k24 : PySem.W.keepIn K (.ref f24) = true)
    (a25 : PySem.W.nsIn K mainGlobals "law" = some (some (.ref f25))) (l25 : K.lookup f25 = some ⟨oc25, od25, .func (PySem.W.fnOf "law" "law" (defArgs s_law) (defBody s_law) (defScope s_law) .none kV25 dc25 pm25 an25 cd25 ct25), sl25⟩) (c25 : PySem.W.codeIn K cd25 "law" = true) (k25 : PySem.W.keepIn K (.ref f25) = true)
    (z_ValueError : PySem.W.nsIn K mainGlobals "ValueError" = some none) (z_abs : PySem.W.nsIn K mainGlobals "abs" = some none) (z_all : PySem.W.nsIn K mainGlobals "all" = some none) (z_any : PySem.W.nsIn K mainGlobals "any" = some none) (z_bool : PySem.W.nsIn K mainGlobals "bool" = some none) (z_enumerate : PySem.W.nsIn K mainGlobals "enumerate" = some none) (z_int : PySem.W.nsIn K mainGlobals "int" = some none) (z_isinstance : PySem.W.nsIn K mainGlobals "isinstance" = some none) (z_len : PySem.W.nsIn K mainGlobals "len" = some none) (z_list : PySem.W.nsIn K mainGlobals "list" = some none) (z_max : PySem.W.nsIn K mainGlobals "max" = some none) (z_min : PySem.W.nsIn K mainGlobals "min" = some none) (z_range : PySem.W.nsIn K mainGlobals "range" = some none) (z_tuple : PySem.W.nsIn K mainGlobals "tuple" = some none) :
    ∃ fd : FuncData, (∀ (s : Shared) (v : Value), BindsTo s fd ⟨[v], []⟩ [("script", v)]) ∧ ∀ base : Heap, K.In base → base.Ns mainGlobals mg → FnOk l.prog w K mg base CX0 6 fa fd ["script"] (spLaw K) := by
  have e := hfa.symm.trans (PySem.W.mg_of X G a25)
  cases e
  have Bt : Blt mg := ⟨PySem.W.mg_none_of X G z_ValueError, PySem.W.mg_none_of X G z_abs, PySem.W.mg_none_of X G z_all, PySem.W.mg_none_of X G z_any, PySem.W.mg_none_of X G z_bool, PySem.W.mg_none_of X G z_enumerate, PySem.W.mg_none_of X G z_int, PySem.W.mg_none_of X G z_isinstance, PySem.W.mg_none_of X G z_len, PySem.W.mg_none_of X G z_list, PySem.W.mg_none_of X G z_max, PySem.W.mg_none_of X G z_min, PySem.W.mg_none_of X G z_range, PySem.W.mg_none_of X G z_tuple⟩
  have F0 := fun_mk (st := s_Lspring) l0 c0 k0
  have F1 := fun_mk (st := s_Ldraw) l1 c1 k1
  have F2 := fun_mk (st := s_Lweb) l2 c2 k2
  have F3 := fun_mk (st := s_is_whole) l3 c3 k3
  have F4 := fun_mk (st := s_names) l4 c4 k4
  have F5 := fun_mk (st := s_touches_meet) l5 c5 k5
  have F6 := fun_mk (st := s_is_known) l6 c6 k6
  have F7 := fun_mk (st := s_learn) l7 c7 k7
  have F8 := fun_mk (st := s_is_note) l8 c8 k8
  have F9 := fun_mk (st := s_places_of) l9 c9 k9
  have F10 := fun_mk (st := s_is_strict) l10 c10 k10
  have F11 := fun_mk (st := s_check_strict) l11 c11 k11
  have F12 := fun_mk (st := s_steps_by) l12 c12 k12
  have F13 := fun_mk (st := s_knowns_by) l13 c13 k13
  have F14 := fun_mk (st := s_enough) l14 c14 k14
  have F15 := fun_mk (st := s_Lcalls) l15 c15 k15
  have F16 := fun_mk (st := s_Lmeets) l16 c16 k16
  have F17 := fun_mk (st := s_Lstep) l17 c17 k17
  have F18 := fun_mk (st := s_Ltable) l18 c18 k18
  have F19 := fun_mk (st := s_Lnotes) l19 c19 k19
  have F20 := fun_mk (st := s_Lenough) l20 c20 k20
  have F21 := fun_mk (st := s_Llater) l21 c21 k21
  have F22 := fun_mk (st := s_Lany) l22 c22 k22
  have F23 := fun_mk (st := s_Lmixed) l23 c23 k23
  have F24 := fun_mk (st := s_Lsome) l24 c24 k24
  have F25 := fun_mk (st := s_law) l25 c25 k25
  refine ⟨PySem.W.fnOf "law" "law" (defArgs s_law) (defBody s_law) (defScope s_law) .none kV25 dc25 pm25 an25 cd25 ct25, fun s v => .of_eq rfl, fun base _ _ => ?_⟩
  have A0 : FnAt l.prog w K mg base 1 "_law_spring" ["script"] (spSpring K) := ⟨f0, _, ok_spring F0 Bt, PySem.W.mg_of X G a0, k0, F0.binds (ps := ["script"]) bi_Lspring⟩
  have A1 : FnAt l.prog w K mg base 1 "_law_draw" ["spring", "many"] (spDraw K) := ⟨f1, _, ok_draw F1 , PySem.W.mg_of X G a1, k1, F1.binds (ps := ["spring", "many"]) bi_Ldraw⟩
  have A2 : FnAt l.prog w K mg base 2 "_law_web" ["spring", "most"] (spWeb K) := ⟨f2, _, ok_web F2 A1 Bt, PySem.W.mg_of X G a2, k2, F2.binds (ps := ["spring", "most"]) bi_Lweb⟩
  have A3 : FnAt l.prog w K mg base 1 "is_whole" ["value"] (spWh K) := ⟨f3, _, ok_is_whole F3 Bt, PySem.W.mg_of X G a3, k3, F3.binds (ps := ["value"]) bi_is_whole⟩
  have A4 : FnAt l.prog w K mg base 1 "names" ["web"] (spNames K) := ⟨f4, _, ok_names F4 , PySem.W.mg_of X G a4, k4, F4.binds (ps := ["web"]) bi_names⟩
  have A5 : FnAt l.prog w K mg base 1 "touches_meet" ["one", "other"] (spMt K) := ⟨f5, _, ok_touches_meet F5 , PySem.W.mg_of X G a5, k5, F5.binds (ps := ["one", "other"]) bi_touches_meet⟩
  have A6 : FnAt l.prog w K mg base 1 "is_known" ["name", "known"] (spKnown K) := ⟨f6, _, ok_known F6 , PySem.W.mg_of X G a6, k6, F6.binds (ps := ["name", "known"]) bi_is_known⟩
  have A7 : FnAt l.prog w K mg base 1 "learn" ["known", "more"] (spLearn K) := ⟨f7, _, ok_learn F7 Bt, PySem.W.mg_of X G a7, k7, F7.binds (ps := ["known", "more"]) bi_learn⟩
  have A8 : FnAt l.prog w K mg base 2 "is_note" ["value"] (spIsNote K) := ⟨f8, _, ok_is_note F8 A3 Bt, PySem.W.mg_of X G a8, k8, F8.binds (ps := ["value"]) bi_is_note⟩
  have A9 : FnAt l.prog w K mg base 2 "places_of" ["web"] (spPlaces K) := ⟨f9, _, ok_places F9 A4 Bt, PySem.W.mg_of X G a9, k9, F9.binds (ps := ["web"]) bi_places_of⟩
  have A10 : FnAt l.prog w K mg base 3 "is_strict" ["places", "note"] (spStrict K) := ⟨f10, _, ok_strict F10 A8, PySem.W.mg_of X G a10, k10, F10.binds (ps := ["places", "note"]) bi_is_strict⟩
  have A11 : FnAt l.prog w K mg base 4 "check_strict" ["places", "some"] (spCSn K) := ⟨f11, _, ok_csn F11 A10 Bt, PySem.W.mg_of X G a11, k11, F11.binds (ps := ["places", "some"]) bi_check_strict⟩
  have A12 : FnAt l.prog w K mg base 1 "steps_by" ["places", "some"] (spSb K) := ⟨f12, _, ok_sb F12 Bt, PySem.W.mg_of X G a12, k12, F12.binds (ps := ["places", "some"]) bi_steps_by⟩
  have A13 : FnAt l.prog w K mg base 2 "knowns_by" ["named", "steps"] (spKb K) := ⟨f13, _, ok_kb F13 A7 Bt, PySem.W.mg_of X G a13, k13, F13.binds (ps := ["named", "steps"]) bi_knowns_by⟩
  have A14 : FnAt l.prog w K mg base 5 "enough" ["web", "some"] (spEn K) := ⟨f14, _, ok_en F14 A9 A11 A4 A12 A13 A5 A6 Bt, PySem.W.mg_of X G a14, k14, F14.binds (ps := ["web", "some"]) bi_enough⟩
  have A15 : FnAt l.prog w K mg base 1 "_law_calls" ["web"] (spCalls K) := ⟨f15, _, ok_calls F15 Bt, PySem.W.mg_of X G a15, k15, F15.binds (ps := ["web"]) bi_Lcalls⟩
  have A16 : FnAt l.prog w K mg base 1 "_law_meets" ["one", "other"] (spMt K) := ⟨f16, _, ok_Lmeets F16 , PySem.W.mg_of X G a16, k16, F16.binds (ps := ["one", "other"]) bi_Lmeets⟩
  have A17 : FnAt l.prog w K mg base 2 "_law_step" ["one", "other"] (spLstep K) := ⟨f17, _, ok_Lstep F17 A16, PySem.W.mg_of X G a17, k17, F17.binds (ps := ["one", "other"]) bi_Lstep⟩
  have A18 : FnAt l.prog w K mg base 3 "_law_table" ["web", "calls"] (spTable K) := ⟨f18, _, ok_table F18 A17 Bt, PySem.W.mg_of X G a18, k18, F18.binds (ps := ["web", "calls"]) bi_Ltable⟩
  have A19 : FnAt l.prog w K mg base 3 "_law_notes" ["web", "calls", "table"] (spLnotes K) := ⟨f19, _, ok_Lnotes F19 A17 Bt, PySem.W.mg_of X G a19, k19, F19.binds (ps := ["web", "calls", "table"]) bi_Lnotes⟩
  have A20 : FnAt l.prog w K mg base 2 "_law_enough" ["web", "calls", "some"] (spLen K) := ⟨f20, _, ok_Len F20 A16 Bt, PySem.W.mg_of X G a20, k20, F20.binds (ps := ["web", "calls", "some"]) bi_Lenough⟩
  have A21 : FnAt l.prog w K mg base 2 "_law_later" ["spring", "web", "pair"] (spLater K) := ⟨f21, _, ok_Llater F21 A1 Bt, PySem.W.mg_of X G a21, k21, F21.binds (ps := ["spring", "web", "pair"]) bi_Llater⟩
  have A22 : FnAt l.prog w K mg base 2 "_law_any" ["spring", "web", "many"] (spAny K) := ⟨f22, _, ok_Lany F22 A1 Bt, PySem.W.mg_of X G a22, k22, F22.binds (ps := ["spring", "web", "many"]) bi_Lany⟩
  have A23 : FnAt l.prog w K mg base 2 "_law_mixed" ["spring", "pairs"] (spMixed K) := ⟨f23, _, ok_Lmixed F23 A1 Bt, PySem.W.mg_of X G a23, k23, F23.binds (ps := ["spring", "pairs"]) bi_Lmixed⟩
  have A24 : FnAt l.prog w K mg base 3 "_law_some" ["spring", "web", "pairs", "kind"] (spSome K) := ⟨f24, _, ok_Lsome F24 A1 A22 A21 A23 Bt, PySem.W.mg_of X G a24, k24, F24.binds (ps := ["spring", "web", "pairs", "kind"]) bi_Lsome⟩
  exact ok_law F25 A0 A1 A2 A15 A18 A19 A24 A14 A20 Bt
theorem walk {l : PySem.W.OpenLaw} {q : Program} {loose : List Str} {XP : (Str → Option Value) → Heap → Prop} {YP : World → Heap → Prop} {d : DefRec} {K : Params → PySem.W.Frag} (hn : l.most = some 63) (hdf : d.params.defaults = [])
    (hY : ∀ (w : World) (h : Heap), YP w h → (K w.params).In h)
    (F : ∀ (w : World) (mg : Str → Option Value) (fa : Addr) (h : Heap), (K w.params).In h → h.Ns mainGlobals mg → mg d.name = some (.ref fa) →
      ∃ fd : FuncData, (∀ (s : Shared) (u : Value), BindsTo s fd ⟨[u], []⟩ [("script", u)]) ∧ ∀ base : Heap, (K w.params).In base → base.Ns mainGlobals mg → FnOk l.prog w (K w.params) mg base CX0 6 fa fd ["script"] (spLaw (K w.params))) :
    PySem.W.WalkO q loose XP YP l.row.toRowW d [] (fun f vs => PySem.call f vs) :=
  L2.walk_of (n := 63) (k := 6) (x := "script") (CX := fun _ => CX0) (sp := fun w => spLaw (K w.params)) hn (by decide) hdf ⟨rfl, by decide, by decide⟩ hY F (fun _ _ a ns hl _ hS => ⟨a, ns, rfl, hS, hl, fun _ => rfl⟩) fun _ _ _ _ _ z => z
end Prf
namespace PySem.W.Fast
def tw5119058957743344251 := ()
def tw2718539726538791427 := ()
def tw8391469054134609872 := ()
def tw8642570513792260721 := ()
def tw11828680444997706103 := ()
def tw10510787894106477891 := ()
def tw21605394431074703 := ()
def tw160415809868809503 := ()
def tw11938879451892261394 := ()
def tw9721916474022412545 := ()
def tw2024154051333038326 := ()
def tw16117204057097306242 := ()
def tw10679499865187725339 := ()
def tw12660406359516601024 := ()
def tw18439612811770034656 := ()
def tw17433628386084123318 := ()
def tw6193972899771839700 := ()
def tw5603591317435411500 := ()
def tw16311777531295333298 := ()
def tw13150907680255969751 := ()
def tw370851380739718247 := ()
def tw10391610723123480268 := ()
def tw9205790773972729749 := ()
def tw10474571055721252149 := ()
def tw9326870302847029425 := ()
def tw16520872762588147393 := ()
def tw7181922813077753103 := ()
def tw6526501180253657781 := ()
def tw16480573848081659084 := ()
def tw1276406893532364662 := ()
def tw12322789846571501786 := ()
def tw16943809466051579410 := ()
def tw1254364226262558710 := ()
def tw15687672894050428100 := ()
def tw13286624601196750980 := ()
def tw9536787918002413657 := ()
def tw7377947294989770006 := ()
def tw2587730038798071154 := ()
def tw17003793460909049260 := ()
def tw92735779559419310 := ()
def tw16017897989933098572 := ()
def tw8537175118433179456 := ()
def tw13353213698792437611 := ()
def tw1902443280590236767 := ()
def tw1169220051623834581 := ()
def tw1012517742132328588 := ()
def tw6510601945525842249 := ()
def tw6858630696223408104 := ()
def tw17579987926291094433 := ()
def tw7625418624785264049 := ()
def tw6715841639175742269 := ()
def tw3164319411343946191 := ()
def tw4278349861424763147 := ()
def tw4631918987258798086 := ()
def tw9538018876570088669 := ()
def tw1476167436965071582 := ()
def tw15746415641694126241 := ()
def tw18219394217060071194 := ()
def tw7417870198860928929 := ()
def tw10180142824353679043 := ()
def tw398866069665603217 := ()
def tw12449671640352699290 := ()
def tw603817616835907309 := ()
def tw1021748462209490985 := ()
def tw3910977452023162923 := ()
def tw15223828735661514011 := ()
def tw8109333968308040198 := ()
def tw4945978333714582197 := ()
def tw11375300688350780686 := ()
def tw4641906213943399949 := ()
def tw1327250310540949297 := ()
def tw2690091450951053820 := ()
def tw4731079326271027184 := ()
def tw11073173753791487807 := ()
def tw4262433476105219803 := ()
def tw7139070178028155110 := ()
def tw10834159500608814060 := ()
def tw13712718102633561106 := ()
def tw13879091113651503303 := ()
def tw2469425954278932418 := ()
def tw10552212402729018951 := ()
def tw13775077029151283060 := ()
def tw10187979159545234890 := ()
def tw3465392078160219087 := ()
def tw14775020549660676033 := ()
def tw7438031307918085074 := ()
def tw11530583459655785290 := ()
def tw4138078703078345482 := ()
def tw7505703128625006055 := ()
def tw4222982531793516452 := ()
def tw9074510449575784814 := ()
def tw1711258922795275249 := ()
def tw13601406824447550685 := ()
def tw16638323550070382647 := ()
def tw7628824272380314907 := ()
def tw10103724799338940522 := ()
def tw14009320758296961849 := ()
def tw6777352753986163272 := ()
def tw7616315541579806181 := ()
def tw15798168657439251258 := ()
def tw10787692965031958464 := ()
def tw3972255384581410877 := ()
def tw4716629644085042438 := ()
def tw7588060048391876639 := ()
def tw7421596306821994346 := ()
def tw5316715605941542980 := ()
def tw2676974303130281324 := ()
def tw6843460296448163264 := ()
def tw2500569511346046731 := ()
def tw10707954127373040117 := ()
def tw11290588972994585527 := ()
def tw12679799272687595477 := ()
def tw1398953520830728548 := ()
def tw517106036744442697 := ()
def tw2549863552818531361 := ()
def tw13488628554024218514 := ()
def tw16878494311063116843 := ()
def tw13854845044592590910 := ()
def tw4647682698828595794 := ()
def tw10219686477544848726 := ()
def tw12392325657342014576 := ()
def tw9525504239781489329 := ()
def tw15493317351047002732 := ()
def tw10019643808108260408 := ()
def tw7976645066526072495 := ()
def tw6615750775182592208 := ()
def tw9839910714514333041 := ()
def tw2995883879686822271 := ()
def tw14211862587988078192 := ()
def tw16159726345407295151 := ()
def tw14958789370779400960 := ()
def tw8102354350095818174 := ()
def tw10132732703472788839 := ()
def tw7962152460648290867 := ()
def tw119800211525757847 := ()
def tw8451887500933939550 := ()
def tw1788442066962681082 := ()
def tw5753525666820042126 := ()
def tw15447600423218382082 := ()
def tw239167572142581351 := ()
def tw2507755315156716258 := ()
def tw17103502287285795308 := ()
def tw16035610883798185587 := ()
def tw8484390542620889090 := ()
def tw1603479148551012933 := ()
def tw4179530530068321330 := ()
def tw6326389786051372641 := ()
def tw6061732397547193974 := ()
def tw8892272072347856632 := ()
def tw10821241975312828034 := ()
def tw18317114679324190503 := ()
def tw14564431882691157306 := ()
def tw6023132057767771138 := ()
def tw9942653235194693636 := ()
def tw2287529451593864138 := ()
def tw2885219895019624613 := ()
def tw179123960116728990 := ()
def tw8560353692271271217 := ()
def tw17062336601945972334 := ()
def tw6258564615776209854 := ()
def tw7668968276121473889 := ()
def tw6554434382518863772 := ()
def tw13130138230597488553 := ()
def tw3731659832032877820 := ()
def tw16048440027367644633 := ()
def tw6241489455558927177 := ()
def tw7785851641780724632 := ()
def tw1229168427212592797 := ()
def tw11322945881340559205 := ()
def tw2323713450901574114 := ()
def tw3942032026184885434 := ()
def tw5459101855740008639 := ()
def tw5480642505044040413 := ()
def tw16892443331619931253 := ()
def tw17078896950386841823 := ()
def tw11048449629564307435 := ()
def tw9970293141253078839 := ()
def tw4786892464639123488 := ()
def tw10357400573423723016 := ()
def tw10400150029277166702 := ()
def tw3377130777684879149 := ()
end PySem.W.Fast
open PySem PySem.W PyProof.Rows
set_option maxRecDepth 100000 in
set_option maxHeartbeats 0 in
theorem PySem.Challenge.cw_fewnotes_k24_enough_or_not_holds : PySem.Challenge.rw_fewnotes_k24_enough_or_not.Holds := by
  w_on; o_law; k_head; (case hw => w_witness2)
  k_fill
  refine Prf.walk (l := PySem.Challenge.rw_fewnotes_k24_enough_or_not) rfl rfl (fun w h Y => PySem.W.kIn_of Y) ?F
  case F =>
    intro w mg fa h KX G hmg
    replace hmg : mg (Str.ofString "law") = some (.ref fa) := hmg
    refine' Prf.all_mk KX G hmg ?a0 ?l0 ?c0 ?k0 ?a1 ?l1 ?c1 ?k1 ?a2 ?l2 ?c2 ?k2 ?a3 ?l3 ?c3 ?k3 ?a4 ?l4 ?c4 ?k4 ?a5 ?l5 ?c5 ?k5 ?a6 ?l6 ?c6 ?k6 ?a7 ?l7 ?c7 ?k7 ?a8 ?l8 ?c8 ?k8 ?a9 ?l9 ?c9 ?k9 ?a10 ?l10 ?c10 ?k10 ?a11 ?l11 ?c11 ?k11 ?a12 ?l12 ?c12 ?k12 ?a13 ?l13 ?c13 ?k13 ?a14 ?l14 ?c14 ?k14 ?a15 ?l15 ?c15 ?k15 ?a16 ?l16 ?c16 ?k16 ?a17 ?l17 ?c17 ?k17 ?a18 ?l18 ?c18 ?k18 ?a19 ?l19 ?c19 ?k19 ?a20 ?l20 ?c20 ?k20 ?a21 ?l21 ?c21 ?k21 ?a22 ?l22 ?c22 ?k22 ?a23 ?l23 ?c23 ?k23 ?a24 ?l24 ?c24 ?k24 ?a25 ?l25 ?c25 ?k25 ?z_ValueError ?z_abs ?z_all ?z_any ?z_bool ?z_enumerate ?z_int ?z_isinstance ?z_len ?z_list ?z_max ?z_min ?z_range ?z_tuple
    (case a0 => k_is)
    (case l0 => k_is)
    (case c0 => k_is)
    (case k0 => k_is)
    (case a1 => k_is)
    (case l1 => k_is)
    (case c1 => k_is)
    (case k1 => k_is)
    (case a2 => k_is)
    (case l2 => k_is)
    (case c2 => k_is)
    (case k2 => k_is)
    (case a3 => k_is)
    (case l3 => k_is)
    (case c3 => k_is)
    (case k3 => k_is)
    (case a4 => k_is)
    (case l4 => k_is)
    (case c4 => k_is)
    (case k4 => k_is)
    (case a5 => k_is)
    (case l5 => k_is)
    (case c5 => k_is)
    (case k5 => k_is)
    (case a6 => k_is)
    (case l6 => k_is)
    (case c6 => k_is)
    (case k6 => k_is)
    (case a7 => k_is)
    (case l7 => k_is)
    (case c7 => k_is)
    (case k7 => k_is)
    (case a8 => k_is)
    (case l8 => k_is)
    (case c8 => k_is)
    (case k8 => k_is)
    (case a9 => k_is)
    (case l9 => k_is)
    (case c9 => k_is)
    (case k9 => k_is)
    (case a10 => k_is)
    (case l10 => k_is)
    (case c10 => k_is)
    (case k10 => k_is)
    (case a11 => k_is)
    (case l11 => k_is)
    (case c11 => k_is)
    (case k11 => k_is)
    (case a12 => k_is)
    (case l12 => k_is)
    (case c12 => k_is)
    (case k12 => k_is)
    (case a13 => k_is)
    (case l13 => k_is)
    (case c13 => k_is)
    (case k13 => k_is)
    (case a14 => k_is)
    (case l14 => k_is)
    (case c14 => k_is)
    (case k14 => k_is)
    (case a15 => k_is)
    (case l15 => k_is)
    (case c15 => k_is)
    (case k15 => k_is)
    (case a16 => k_is)
    (case l16 => k_is)
    (case c16 => k_is)
    (case k16 => k_is)
    (case a17 => k_is)
    (case l17 => k_is)
    (case c17 => k_is)
    (case k17 => k_is)
    (case a18 => k_is)
    (case l18 => k_is)
    (case c18 => k_is)
    (case k18 => k_is)
    (case a19 => k_is)
    (case l19 => k_is)
    (case c19 => k_is)
    (case k19 => k_is)
    (case a20 => k_is)
    (case l20 => k_is)
    (case c20 => k_is)
    (case k20 => k_is)
    (case a21 => k_is)
    (case l21 => k_is)
    (case c21 => k_is)
    (case k21 => k_is)
    (case a22 => k_is)
    (case l22 => k_is)
    (case c22 => k_is)
    (case k22 => k_is)
    (case a23 => k_is)
    (case l23 => k_is)
    (case c23 => k_is)
    (case k23 => k_is)
    (case a24 => k_is)
    (case l24 => k_is)
    (case c24 => k_is)
    (case k24 => k_is)
    (case a25 => k_is)
    (case l25 => k_is)
    (case c25 => k_is)
    (case k25 => k_is)
    (case z_ValueError => k_is)
    (case z_abs => k_is)
    (case z_all => k_is)
    (case z_any => k_is)
    (case z_bool => k_is)
    (case z_enumerate => k_is)
    (case z_int => k_is)
    (case z_isinstance => k_is)
    (case z_len => k_is)
    (case z_list => k_is)
    (case z_max => k_is)
    (case z_min => k_is)
    (case z_range => k_is)
    (case z_tuple => k_is)
#print axioms PySem.Challenge.cw_fewnotes_k24_enough_or_not_holds
