import PyProof.Rows.All
import Wide.All
import OpenK.AllK
import Wide.FinOn
import Lean
import PyProof.EqAt
import PyProof.EqKinds
import PyProof.TupleCall
import PyProof.EqLayable
import PyProof.ExcArgsOwn
import PyProof.ExcAttrAll.Exception
import PyProof.RulesAs
import PyProof.ExcBaseAll.ValueError
import PyProof.NsDelKeeps
import KE.KRevSl
import OpenK.KOps
import OpenK.KWalk
import PyProof.TupleIter
import PyProof.ZipIter
import PySem.Challenge.RW_fewnotes_k85_whole_swapped_numbers_stay
set_option Elab.async false
set_option linter.all false
set_option maxRecDepth 100000
/-! THE HAND LAYER, for ints, bools, texts, own classes, LISTS and tuples (index, slices, in, append, pop ..), calls, loops. Paste it whole ahead of your own text; what your proof does not reach may be deleted. -/
namespace L2
open PySem PySem.Spec PyProof.Rows

/-- a key: an int or a str -/
abbrev Key := Sum Int Str
def keyIs : Key → Value → Bool
  | .inl k, v => Value.isInt k v
  | .inr x, v => Value.isStrOf x v
def keyH (w : World) : Key → Int
  | .inl k => hashInt k
  | .inr x => hashStr w x
theorem keyIs_shape : ∀ {k : Key} {v : Value}, keyIs k v = true → (∃ i t, k = Sum.inl i ∧ v = Value.int i t) ∨ (∃ x t, k = Sum.inr x ∧ v = Value.str x t)
  | .inl i, v, h => by
    obtain ⟨t, e⟩ := Value.isInt_shape (k := i) (v := v) h
    exact .inl ⟨i, t, rfl, e⟩
  | .inr x, v, h => by
    obtain ⟨t, e⟩ := Value.isStrOf_shape (x := x) (v := v) h
    exact .inr ⟨x, t, rfl, e⟩
theorem key_ll (a b : Int) : decide ((Sum.inl a : Key) = Sum.inl b) = (a == b) := by
  by_cases e : a = b
  · subst e; simp
  · have h : ¬ (Sum.inl a : Key) = Sum.inl b := fun q => e (Sum.inl.inj q)
    rw [decide_eq_false h]
    exact (beq_eq_false_iff_ne.mpr e).symm
theorem key_rr (a b : Str) : decide ((Sum.inr a : Key) = Sum.inr b) = decide (a = b) := by
  by_cases e : a = b
  · subst e; simp
  · have h : ¬ (Sum.inr a : Key) = Sum.inr b := fun q => e (Sum.inr.inj q)
    rw [decide_eq_false h, decide_eq_false e]
theorem key_lr (a : Int) (b : Str) : decide ((Sum.inl a : Key) = Sum.inr b) = false := decide_eq_false (fun q => nomatch q)
theorem key_rl (a : Str) (b : Int) : decide ((Sum.inr a : Key) = Sum.inl b) = false := decide_eq_false (fun q => nomatch q)

def mixKind (prog : Program) (w : World) : PySem.KeyKind prog w Key where
  is := keyIs
  hash := keyH w
  inj := fun v a b ha hb => by
    rcases keyIs_shape ha with ⟨i, t, rfl, rfl⟩ | ⟨x, t, rfl, rfl⟩
    · rcases keyIs_shape hb with ⟨j, u, rfl, e⟩ | ⟨y, u, rfl, e⟩
      · injection e with e1 _; rw [e1]
      · exact nomatch e
    · rcases keyIs_shape hb with ⟨j, u, rfl, e⟩ | ⟨y, u, rfl, e⟩
      · exact nomatch e
      · injection e with e1 _; rw [e1]
  byValue := fun k v h => by
    rcases keyIs_shape h with ⟨i, t, rfl, rfl⟩ | ⟨x, t, rfl, rfl⟩ <;> rfl
  pyHash := fun hv h => by
    rcases keyIs_shape hv with ⟨i, t, rfl, rfl⟩ | ⟨x, t, rfl, rfl⟩
    · exact wpAny_pyHash_int h
    · exact wpAny_pyHash_str h
  eqBool := fun hu hv h => by
    rcases keyIs_shape hu with ⟨i, t, rfl, rfl⟩ | ⟨x, t, rfl, rfl⟩
    · rcases keyIs_shape hv with ⟨j, u, rfl, rfl⟩ | ⟨y, u, rfl, rfl⟩
      · rw [key_ll] at h; exact wpAny_eqBool_int h
      · rw [key_lr] at h; exact SeqAt.EqAt.int_str i t y u _ _ _ _ h
    · rcases keyIs_shape hv with ⟨j, u, rfl, rfl⟩ | ⟨y, u, rfl, rfl⟩
      · rw [key_rl] at h; exact SeqAt.EqAt.str_int x t j u _ _ _ _ h
      · rw [key_rr] at h; exact wpAny_eqBool_str h
  «strs» := fun k x t v h => by
    rcases keyIs_shape h with ⟨i, u, rfl, e⟩ | ⟨y, u, rfl, e⟩
    · exact nomatch e
    · injection e with e1 _
      subst e1
      cases v <;> rfl

end L2

namespace L2
open PySem PySem.Spec PyProof.Rows

/-- a value, without the heap -/
inductive V where
  | non | bl (b : Bool) | int (i : Int) | str (x : Str) | byt (b : Array UInt8) | flt (b : UInt64) | ref (a : Addr) | ty (n : String)
  deriving DecidableEq

def RelV : V → Value → Prop
  | .non, u => u = Value.none
  | .bl b, u => u = Value.bool b
  | .int i, u => ∃ t, u = Value.int i t
  | .str x, u => ∃ t, u = Value.str x t
  | .byt b, u => ∃ t, u = Value.bytes b t
  | .flt b, u => ∃ t, u = Value.float b t
  | .ref a, u => u = Value.ref a
  | .ty n, u => u = Value.type n

abbrev Vals : List V → List Value → Prop := Paired RelV
theorem Vals.length {xs : List V} {us : List Value} (r : Vals xs us) : xs.length = us.length := Paired.length r
theorem Vals.get : ∀ {xs : List V} {us : List Value} {i : Nat} {x : V}, Vals xs us → xs[i]? = some x → ∃ u, us[i]? = some u ∧ RelV x u
  | _, _, _, _, .nil, e => by simp at e
  | _, _, 0, _, .cons r _, e => by simp at e; subst e; exact ⟨_, rfl, r⟩
  | _, _, i + 1, x, .cons _ t, e => by
    obtain ⟨u, h1, h2⟩ := Vals.get (i := i) (x := x) t (by simpa using e)
    exact ⟨u, by simpa using h1, h2⟩
theorem Vals.set {x : V} {u : Value} (r : RelV x u) : ∀ {xs : List V} {us : List Value} (i : Nat), Vals xs us → Vals (xs.set i x) (us.set i u)
  | _, _, _, .nil => .nil
  | _, _, 0, .cons _ t => .cons r t
  | _, _, i + 1, .cons q t => .cons q (Vals.set r i t)
theorem Vals.append {xs ys : List V} {us ws : List Value} (h : Vals xs us) (s : Vals ys ws) : Vals (xs ++ ys) (us ++ ws) := by
  induction h with
  | nil => exact s
  | cons r t ih => exact .cons r ih
theorem Vals.take : ∀ {xs : List V} {us : List Value} (n : Nat), Vals xs us → Vals (xs.take n) (us.take n)
  | _, _, 0, _ => .nil
  | _, _, _ + 1, .nil => .nil
  | _, _, n + 1, .cons r t => .cons r (Vals.take n t)
theorem Vals.drop : ∀ {xs : List V} {us : List Value} (n : Nat), Vals xs us → Vals (xs.drop n) (us.drop n)
  | _, _, 0, r => r
  | _, _, _ + 1, .nil => .nil
  | _, _, n + 1, .cons _ t => Vals.drop n t
def RelO : Option V → Option Value → Prop
  | some v, some u => RelV v u
  | none, none => True
  | _, _ => False
def KV {κ : Type} : List (κ × V) → List (κ × Value) → Prop := Paired fun (p : κ × V) (q : κ × Value) => p.1 = q.1 ∧ RelV p.2 q.2

/-- a key of a dict (00_mix): an int or a text -/
def kV : Key → V
  | .inl i => .int i
  | .inr x => .str x

/-- what stands at a tracked address -/
inductive HO where
  /-- a list -/
  | lst (xs : List V)
  /-- a tuple (never changes) -/
  | tup (xs : List V)
  /-- a dict whose keys are ints and texts; one whose keys are tuples of ints and texts (the empty one is both) -/
  | dK (kvs : List (Key × V)) | dT (kvs : List (List Key × V))
  /-- a set of ints: its members, its size -/
  | set (S : Int → Bool) (n : Nat)
  /-- an instance of the class at C, its dict at dx, its attributes -/
  | ins (C dx : Addr) (fs : List (Str × V))
  /-- the dict of the instance at x -/
  | own (x : Addr)
  /-- the dict of an exception -/
  | xd (fs : List (Str × V))
  /-- a bound method, f of x -/
  | met (f x : Addr)
  /-- a range object lo, lo + 1, .. below hi -/
  | rng (lo hi : Int)
  /-- a thing that is known to the object (the script; a dict while a loop walks it): read, never written while it is so -/
  | frz (o : Obj) (u : HO)
  /-- a code object's table -/
  | tbl (ps : Array Value)
  /-- any other thing, by what is true of its one object (a def of one's own: SetO a S n := HO.ext fun h => ..) -/
  | ext (φ : Heap → Prop)

abbrev Hp := Addr → Option HO
def upd (H : Hp) (a : Addr) (o : HO) : Hp := fun b => if b = a then some o else H b
theorem upd_same {H : Hp} {a : Addr} {o : HO} : upd H a o a = some o := by unfold upd; rw [if_pos rfl]
theorem upd_ne {H : Hp} {a b : Addr} {o : HO} (h : b ≠ a) : upd H a o b = H b := by unfold upd; rw [if_neg h]
/-- two objects of different content stand apart -/
theorem ne_of {H : Hp} {a b : Addr} {o u : HO} (h : H a = some o) (h' : H b = some u) (d : o ≠ u) : a ≠ b := by
  intro e; subst e; rw [h] at h'; exact d (Option.some.inj h')
theorem ne_of_none {H : Hp} {a b : Addr} {o : HO} (h : H a = some o) (h' : H b = none) : a ≠ b := by
  intro e; subst e; rw [h] at h'; cases h'

section
variable (P : Program) (w : World)
def ObjOk (H : Hp) (h : Heap) (a : Addr) : HO → Prop
  | .lst xs => xs.length ≤ sizeLine ∧ ∃ (its : List Value) (n : Nat), Vals xs its ∧ h.get? a = some { cls := .type "list", data := .seq its.toArray n }
  | .tup xs => xs.length ≤ sizeLine ∧ ∃ its : List Value, Vals xs its ∧ IsTup h a its.toArray
  | .dK kvs => kvs.length ≤ sizeLine ∧ (a == sysModules) = false ∧ ∃ vs, KV kvs vs ∧ h.DictOf (mixKind P w) a vs
  | .dT kvs => kvs.length ≤ sizeLine ∧ (a == sysModules) = false ∧ ∃ xs : List (List Key × Addr × Value),
      Paired (fun (p : List Key × V) (q : List Key × Addr × Value) => p.1 = q.1 ∧ H q.2.1 = some (.tup (p.1.map kV)) ∧ RelV p.2 q.2.2) kvs xs ∧
      ∃ o es ep, h.get? a = some o ∧ o.ExactDict ∧ o.data = .dict es ep ∧ es.toList = xs.map (entryOfKey (tupleKind (mixKind P w))) ∧ (xs.map (·.1)).Nodup
  | .set S n => h.SetOf (intKind P w) a S n
  | .ins C dx fs => H dx = some (.own a) ∧ fs.length ≤ 1000 ∧ dx ≠ a ∧ h.get? a = some (PySem.W.instObj C dx) ∧
      ∃ mA, h.Ns1 dx mA ∧ (∀ f, RelO (fs.lookup f) (mA f)) ∧ PySem.Within mA (fs.map (·.1))
  | .own _ => ∃ o, h.get? a = some o
  | .xd fs => ∃ mA, h.Ns1 a mA ∧ ∀ f, RelO (fs.lookup f) (mA f)
  | .rng lo hi => ∃ t u v, h.get? a = some { cls := .type "range", data := .fields #[.int lo t, .int hi u, .int 1 v] }
  | .frz o u => h.get? a = some o ∧ ObjOk H h a u
  | .tbl ps => h.get? a = some { cls := .none, data := .fields ps }
  | .met f x => h.get? a = some (PySem.W.methodObj (.ref f) (.ref x))
  | .ext φ => φ h ∧ (∃ o, h.get? a = some o) ∧ ∀ h1 h2 : Heap, φ h1 → (∀ o, h1.get? a = some o → h2.get? a = some o) → φ h2
/-- the abstract heap is held -/
def HOk (H : Hp) (h : Heap) : Prop := ∀ a o, H a = some o → ObjOk P w H h a o
end

section
variable {P : Program} {w : World} {H H' : Hp} {h h' : Heap} {a : Addr} {o : HO}
theorem ObjOk.lt (x : ObjOk P w H h a o) : a < h.objs.size := by
  cases o with
  | lst xs => obtain ⟨_, _, _, _, e⟩ := x; exact Heap.lt_size e
  | tup xs => obtain ⟨_, _, _, p⟩ := x; exact p.lt
  | dK kvs => obtain ⟨_, _, _, _, o, _, _, e, _⟩ := x; exact Heap.lt_size e
  | dT kvs => obtain ⟨_, _, _, _, o, _, _, e, _⟩ := x; exact Heap.lt_size e
  | set S n => obtain ⟨o, _, _, _, e, _⟩ := x; exact Heap.lt_size e
  | ins C dx fs => obtain ⟨_, _, _, e, _⟩ := x; exact Heap.lt_size e
  | own y => obtain ⟨_, e⟩ := x; exact Heap.lt_size e
  | xd fs => obtain ⟨_, ⟨_, _, _, e, _⟩, _⟩ := x; exact Heap.lt_size e
  | rng lo hi => obtain ⟨_, _, _, e⟩ := x; exact Heap.lt_size e
  | frz ob u => obtain ⟨e, _⟩ := x; exact Heap.lt_size e
  | tbl ps => exact Heap.lt_size (show h.get? a = some _ from x)
  | met f y => exact Heap.lt_size (show h.get? a = some _ from x)
  | ext φ => obtain ⟨_, ⟨_, e⟩, _⟩ := x; exact Heap.lt_size e
theorem Paired.mapP {α β : Type} {F G : α → β → Prop} : ∀ {l₁ : List α} {l₂ : List β}, Paired F l₁ l₂ → (∀ a b, F a b → G a b) → Paired G l₁ l₂
  := by
  intro l₁ l₂ h f
  induction h with
  | nil => exact .nil
  | cons r t ih => exact .cons (f _ _ r) ih
/-- what an object's description leans on: its own object, its own dict, the tuples -/
theorem ObjOk.stay (x : ObjOk P w H h a o) (k : ∀ b u, (b = a ∨ H b = some (.own a)) → h.get? b = some u → h'.get? b = some u)
    (ho : ∀ b, H b = some (.own a) → H' b = some (.own a)) (ht : ∀ b xs, H b = some (.tup xs) → H' b = some (.tup xs)) : ObjOk P w H' h' a o := by
  induction o with
  | lst xs => obtain ⟨z, its, n, r, e⟩ := x; exact ⟨z, its, n, r, k _ _ (.inl rfl) e⟩
  | tup xs => obtain ⟨z, its, r, ob, e, c⟩ := x; exact ⟨z, its, r, ob, k _ _ (.inl rfl) e, c⟩
  | dK kvs => obtain ⟨z, y, vs, r, ob, es, ep, e, c⟩ := x; exact ⟨z, y, vs, r, ob, es, ep, k _ _ (.inl rfl) e, c⟩
  | dT kvs =>
    obtain ⟨z, y, xs, r, ob, es, ep, e, c⟩ := x
    exact ⟨z, y, xs, Paired.mapP r fun p q z => ⟨z.1, ht _ _ z.2.1, z.2.2⟩, ob, es, ep, k _ _ (.inl rfl) e, c⟩
  | set S n => obtain ⟨ob, es, ep, t, e, c⟩ := x; exact ⟨ob, es, ep, t, k _ _ (.inl rfl) e, c⟩
  | ins C dx fs =>
    obtain ⟨d, z, ne, e, mA, ⟨od, es, ep, e2, c⟩, r⟩ := x
    exact ⟨ho _ d, z, ne, k _ _ (.inl rfl) e, mA, ⟨od, es, ep, k _ _ (.inr d) e2, c⟩, r⟩
  | own y => obtain ⟨ob, e⟩ := x; exact ⟨ob, k _ _ (.inl rfl) e⟩
  | xd fs => obtain ⟨mA, ⟨od, es, ep, e, c⟩, r⟩ := x; exact ⟨mA, ⟨od, es, ep, k _ _ (.inl rfl) e, c⟩, r⟩
  | rng lo hi => obtain ⟨t, u, v, e⟩ := x; exact ⟨t, u, v, k _ _ (.inl rfl) e⟩
  | frz ob u ih => obtain ⟨e, q⟩ := x; exact ⟨k _ _ (.inl rfl) e, ih q⟩
  | tbl ps =>
    have e : h.get? a = some { cls := .none, data := .fields ps } := x
    show h'.get? a = some { cls := .none, data := .fields ps }
    exact k a _ (.inl rfl) e
  | met f y =>
    have e : h.get? a = some (PySem.W.methodObj (.ref f) (.ref y)) := x
    show h'.get? a = some (PySem.W.methodObj (.ref f) (.ref y))
    exact k a _ (.inl rfl) e
  | ext φ => obtain ⟨p, ⟨o, e⟩, st⟩ := x; exact ⟨st _ _ p fun o q => k _ _ (.inl rfl) q, ⟨o, k _ _ (.inl rfl) e⟩, st⟩
theorem HOk.lt (x : HOk P w H h) (e : H a = some o) : a < h.objs.size := (x a o e).lt
theorem HOk.fresh (x : HOk P w H h) (e : h.objs.size ≤ a) : H a = none := by
  cases q : H a with
  | none => rfl
  | some u => exact absurd (Nat.lt_of_lt_of_le (x.lt q) e) (Nat.lt_irrefl _)
/-- every object of the heap is kept -/
theorem HOk.kept (x : HOk P w H h) (k : ∀ b u, h.get? b = some u → h'.get? b = some u) : HOk P w H h' := fun a o e =>
  (x a o e).stay (fun b u _ q => k b u q) (fun _ q => q) fun _ _ q => q
/-- a new object is laid and tracked -/
theorem HOk.laid (x : HOk P w H h) (k : ∀ b u, h.get? b = some u → h'.get? b = some u) (hp : h.objs.size ≤ a) (new : ObjOk P w (upd H a o) h' a o) : HOk P w (upd H a o) h' := fun b u e => by
  have hn := x.fresh hp
  by_cases hb : b = a
  · subst hb; rw [upd_same] at e; cases e; exact new
  · rw [upd_ne hb] at e
    exact (x b u e).stay (fun c v _ q => k c v q) (fun c q => by rw [upd_ne (ne_of_none q hn)]; exact q) fun c xs q => by rw [upd_ne (ne_of_none q hn)]; exact q
end

/-- what may be read as u: it is u, or a known u -/
def Rd (H : Hp) (a : Addr) (u : HO) : Prop := H a = some u ∨ ∃ o, H a = some (.frz o u)
theorem Rd.ok {P : Program} {w : World} {H : Hp} {h : Heap} {a : Addr} {u : HO} (r : Rd H a u) (x : HOk P w H h) : ObjOk P w H h a u := by
  rcases r with r | ⟨o, r⟩
  · exact x a u r
  · obtain ⟨_, q⟩ := x a _ r
    exact q
/-- what may be written -/
def Mut : Option HO → Prop
  | some (.lst _) => True
  | some (.dK _) => True
  | some (.dT _) => True
  | some (.set _ _) => True
  | some (.ins _ _ _) => True
  | some (.ext _) => True
  | _ => False
section
variable {P : Program} {w : World} {H : Hp} {h h' : Heap} {x e : Addr} {o' : HO}
/-- the object at e is changed: x itself, or the dict of the instance x -/
theorem HOk.write (ok : HOk P w H h) (mu : Mut (H x)) (he : e = x ∨ H e = some (.own x)) (k : ∀ b u, b ≠ e → h.get? b = some u → h'.get? b = some u) (heo : ∃ u, h'.get? e = some u)
    (new : ObjOk P w (upd H x o') h' x o') : HOk P w (upd H x o') h' := fun b u q => by
  have nown : ∀ c y, H c = some (.own y) → c ≠ x := fun c y r z => by subst z; rw [r] at mu; exact mu
  have ntup : ∀ c xs, H c = some (.tup xs) → c ≠ x := fun c xs r z => by subst z; rw [r] at mu; exact mu
  by_cases hb : b = x
  · subst hb; rw [upd_same] at q; cases q; exact new
  · rw [upd_ne hb] at q
    by_cases hbe : b = e
    · have q' : H b = some (.own x) := by
        rcases he with z | z
        · exact absurd (hbe.trans z) hb
        · rw [hbe]; exact z
      rw [q] at q'; cases q'
      obtain ⟨v, hv⟩ := heo
      exact ⟨v, by rw [hbe]; exact hv⟩
    · refine (ok b u q).stay (fun c v hc r => k c v ?_ r) (fun c r => by rw [upd_ne (nown c b r)]; exact r) fun c xs r => by rw [upd_ne (ntup c xs r)]; exact r
      rcases hc with rfl | hc
      · exact hbe
      · rintro rfl
        rcases he with z | z
        · exact nown c b hc z
        · rw [hc] at z; cases z; exact hb rfl
end

/-! ### kept unless tracked; of the frames at fs (the callers') the slots may change (an exception that passes writes there); of the records at ex (iterators) nothing is said -/
structure Un (fs ex : List Addr) (H H' : Hp) (h h' : Heap) : Prop where
  keep : ∀ b o, h.get? b = some o → H b = none → b ∉ fs → b ∉ ex → h'.get? b = some o
  slot : ∀ b o, h.get? b = some o → H b = none → b ∈ fs → b ∉ ex → ∃ sl, h'.get? b = some { o with slots := sl }
  free : ∀ b o, h.get? b = some o → H b = none → b ∉ ex → H' b = none
  there : ∀ b o, h.get? b = some o → b ∉ ex → ∃ o', h'.get? b = some o'
  tups : ∀ b xs, H b = some (.tup xs) → H' b = some (.tup xs)
  frzs : ∀ b o u, H b = some (.frz o u) → H' b = some (.frz o u)
  tbls : ∀ b ps, H b = some (.tbl ps) → ∃ more, H' b = some (.tbl (ps ++ more))
section
variable {fs fs' ex ex' : List Addr} {H H1 H2 : Hp} {h h1 h2 h' : Heap} {a x e : Addr} {o : HO}
theorem Un.any (u : Un fs ex H H1 h h1) {b : Addr} {ob : Obj} (q : h.get? b = some ob) (n : H b = none) (hx : b ∉ ex) : ∃ sl, h1.get? b = some { ob with slots := sl } := by
  by_cases hb : b ∈ fs
  · exact u.slot b ob q n hb hx
  · exact ⟨ob.slots, u.keep b ob q n hb hx⟩
theorem Un.kept (k : ∀ b u, h.get? b = some u → h'.get? b = some u) : Un fs ex H H h h' :=
  ⟨fun b ob q _ _ _ => k b ob q, fun b ob q _ _ _ => ⟨ob.slots, k b ob q⟩, fun _ _ _ n _ => n, fun b ob q _ => ⟨ob, k b ob q⟩, fun _ _ q => q, fun _ _ _ q => q, fun _ ps q => ⟨#[], by rw [q]; simp⟩⟩
theorem Un.refl : Un fs ex H H h h := Un.kept fun _ _ q => q
theorem Un.laid (k : ∀ b u, h.get? b = some u → h'.get? b = some u) (hp : h.objs.size ≤ a) (hn : H a = none) : Un fs ex H (upd H a o) h h' where
  keep := fun b u q _ _ _ => k b u q
  slot := fun b u q _ _ _ => ⟨u.slots, k b u q⟩
  free := fun b u q n _ => by rw [upd_ne (Nat.ne_of_lt (Nat.lt_of_lt_of_le (Heap.lt_size q) hp))]; exact n
  there := fun b u q _ => ⟨u, k b u q⟩
  tups := fun b xs q => by rw [upd_ne (ne_of_none q hn)]; exact q
  frzs := fun b u xs q => by rw [upd_ne (ne_of_none q hn)]; exact q
  tbls := fun b ps q => ⟨#[], by rw [upd_ne (ne_of_none q hn), q]; simp⟩
theorem Un.write (mu : Mut (H x)) (he : e = x ∨ H e = some (.own x)) (k : ∀ b u, b ≠ e → h.get? b = some u → h'.get? b = some u) (heo : ∃ u, h'.get? e = some u) : Un fs ex H (upd H x o) h h' := by
  have hx : ∀ b, H b = none → b ≠ x := fun b n z => by subst z; rw [n] at mu; exact mu
  have hb : ∀ b, H b = none → b ≠ e := fun b n z => by
    subst z
    rcases he with r | r
    · exact hx b n r
    · rw [n] at r; cases r
  have hm : ∀ b u, H b = some u → ¬ Mut (some u) → b ≠ x := fun b u q nm z => by subst z; rw [q] at mu; exact nm mu
  refine ⟨fun b u q n _ _ => k b u (hb b n) q, fun b u q n _ _ => ⟨u.slots, k b u (hb b n) q⟩, fun b u q n _ => by rw [upd_ne (hx b n)]; exact n, fun b u q _ => ?_,
    fun b xs q => by rw [upd_ne (hm b _ q fun z => z)]; exact q, fun b u xs q => by rw [upd_ne (hm b _ q fun z => z)]; exact q, fun b ps q => ⟨#[], by rw [upd_ne (hm b _ q fun z => z), q]; simp⟩⟩
  by_cases hbe : b = e
  · subst hbe; exact heo
  · exact ⟨u, k b u hbe q⟩
end

/-! ### the heap without what is tracked -/
def trk (h : Heap) (H : Hp) : List Addr := (List.range h.objs.size).filter fun a => (H a).isSome
def hidT (h : Heap) (H : Hp) : Heap := PySem.W.hideAll h (trk h H)
theorem hidT_size (h : Heap) (H : Hp) : (hidT h H).objs.size = h.objs.size := PySem.W.hideAll_size _ _
theorem hidT_get {h : Heap} {H : Hp} {b : Addr} {o : Obj} (e : h.get? b = some o) (n : H b = none) : (hidT h H).get? b = some o :=
  PySem.W.hideAll_get _ e fun hm => by
    have q : (H b).isSome = true := (List.mem_filter.mp hm).2
    rw [n] at q; simp at q
theorem of_hidT {h : Heap} {H : Hp} {b : Addr} {o : Obj} (e : (hidT h H).get? b = some o) : h.get? b = some o ∧ H b = none := by
  have e' : h.get? b = some o := PySem.W.of_hideAll (trk h H) e
  refine ⟨e', ?_⟩
  cases q : H b with
  | none => rfl
  | some x =>
    have hm : b ∈ trk h H := List.mem_filter.mpr ⟨List.mem_range.mpr (Heap.lt_size e'), by simp [q]⟩
    have z : (hidT h H).get? b = none := PySem.W.hideAll_none (trk h H) hm
    rw [z] at e; cases e

/-! ### OpenK's ledger, filled with every new object but one -/
def allNews (g h : Heap) (L : Addr) : List (Addr × Obj) := (List.range h.objs.size).filterMap fun a => if a = L ∨ (g.get? a).isSome = true then none else (h.get? a).map fun o => (a, o)
def rest (g h : Heap) (L d : Addr) : List (Addr × Obj) := (allNews g h L).filter fun p => decide (p.1 ≠ d)
end L2

namespace L2
open PySem PySem.Spec PyProof.Rows

/-- the module's facts, over the base: the heap at the law's entry without what is tracked there -/
structure Mod (K : PySem.W.Frag) (mg : Str → Option Value) (base : Heap) : Prop where
  kin : K.In base
  glob : base.Ns mainGlobals mg
  blt : ∃ mb, base.Ns builtinsNs mb ∧ ∀ x : Str, x ≠ "__name__" → mb x = bootBuiltins x
  nolimit : base.NoLimit

/-- the context: a def's body (or a comprehension's block) running. base: fixed through the whole law; s₀, H₀: the entry; outer: the frames whose slots others may change (a def's callers); stack: all frames that run;
   ex: iterators that were made ahead of the entry and are walked here (a comprehension's); fn: the names whose cells were made at the entry (a def: all; a comprehension's block: its own); calm: not within an except suite; pn: pins that every state bears; xe: what is wanted of an exception that leaves the code -/
structure Cx where
  prog : Program
  w : World
  K : PySem.W.Frag
  mg : Str → Option Value
  base : Heap
  A : Around
  N : List Str
  s₀ : Shared
  H₀ : Hp
  env : Env
  outer : List Env
  stack : List Env
  ex : List Addr
  fn : Str → Bool
  calm : Bool
  pn : List (Addr × Obj)
  xe : Value → Shared → Prop
/-- the callers' frames -/
def frs (l : List Env) : List Addr := l.filterMap (·.frame)
abbrev Cx.fs (X : Cx) : List Addr := frs X.outer

def Vis (sc : Scope) (x : Str) : Prop := sc.names.lookup x = some .local ∨ sc.names.lookup x = some .cell ∨ sc.names.lookup x = some .free
def Loc (sc : Scope) (x : Str) : Prop := sc.names.lookup x = some .local ∨ sc.names.lookup x = some .cell
def Look (env : Env) (h : Heap) (m : Str → Option Value) (x : Str) (u : Value) : Prop :=
  (env.kindOf x = some .local ∧ m x = some u) ∨ ((env.kindOf x = some .cell ∨ env.kindOf x = some .free) ∧ ∃ c, env.cells.lookup x = some c ∧ h.IsCell c (some u))

structure Cx.Ok (X : Cx) : Prop where
  mod : Mod X.K X.mg X.base
  kind : X.env.scope.kind = .function
  glob : X.env.globals = mainGlobals
  blt : X.env.builtins = builtinsNs
  above : X.s₀.heap.objs.size ≤ X.env.locals
  inj : ∀ x y c, X.env.cells.lookup x = some c → X.env.cells.lookup y = some c → x = y
  has : ∀ x, (X.env.kindOf x = some .cell ∨ X.env.kindOf x = some .free) → ∃ c, X.env.cells.lookup x = some c
  cab : ∀ x c, X.fn x = true → X.env.cells.lookup x = some c → X.s₀.heap.objs.size ≤ c
  hd : X.calm = true → X.A.handled = none
  frames : X.A.frames = some X.stack
  stk : X.stack = X.outer ∨ (X.stack = X.env :: X.outer ∧ X.env.frame = some X.env.locals)
  exf : ∀ b ∈ X.ex, b ≠ X.env.locals ∧ ∀ x c, X.env.cells.lookup x = some c → c ≠ b
  bs : ∀ b o, X.base.get? b = some o → X.s₀.heap.get? b = some o ∧ X.H₀ b = none
  bsz : X.base.objs.size ≤ X.s₀.heap.objs.size
  noex : ∀ b o, X.base.get? b = some o → b ∉ X.ex
  exfs : ∀ b ∈ X.ex, b ∉ X.fs
  funs : X.s₀.heap.FunFrames X.base X.outer
  frf : ∀ b ∈ X.fs, X.H₀ b = none

structure Inv (X : Cx) (pins : List (Addr × Obj)) (σ : List (Option V)) (H : Hp) (s : Shared) : Prop where
  ok : X.Ok
  os : s.os = X.s₀.os
  bare : AllBare s.gens
  base : Un X.fs X.ex X.H₀ H X.s₀.heap s.heap
  loc : ∃ m, s.heap.Ns X.env.locals m ∧ ∀ (i : Nat) (x : Str) (v : V), X.N[i]? = some x → σ[i]? = some (some v) → Vis X.env.scope x → ∃ u, RelV v u ∧ Look X.env s.heap m x u
  cell : ∀ x c, X.env.cells.lookup x = some c → ∃ v, s.heap.IsCell c v
  free : H X.env.locals = none
  freeC : ∀ x c, X.env.cells.lookup x = some c → H c = none
  pin : ∀ p ∈ X.pn ++ pins, s.heap.get? p.1 = some p.2 ∧ H p.1 = none ∧ p.1 ≠ X.env.locals ∧ p.1 ∉ X.fs ∧ ∀ v, p.2.data ≠ .cell v
  hok : HOk X.prog X.w H s.heap
  len : σ.length = X.N.length

section
variable {X : Cx} {pins : List (Addr × Obj)} {σ : List (Option V)} {H H' : Hp} {s : Shared} {h' : Heap}

theorem Cx.Ok.nofr (ok : X.Ok) {b : Addr} {o : Obj} (e : X.base.get? b = some o) : b ∉ X.fs := fun hb => by
  have := (ok.funs.mem hb).1
  rw [e] at this; cases this
theorem Inv.bs (I : Inv X pins σ H s) : ∀ b o, X.base.get? b = some o → s.heap.get? b = some o ∧ H b = none := fun b o e =>
  ⟨I.base.keep b o (I.ok.bs b o e).1 (I.ok.bs b o e).2 (I.ok.nofr e) (I.ok.noex b o e), I.base.free b o (I.ok.bs b o e).1 (I.ok.bs b o e).2 (I.ok.noex b o e)⟩
theorem Inv.bk (I : Inv X pins σ H s) : ∀ b o, X.base.get? b = some o → s.heap.get? b = some o := fun b o e => (I.bs b o e).1
theorem Inv.mod (I : Inv X pins σ H s) : Mod X.K X.mg X.base := I.ok.mod
theorem Inv.kIn (I : Inv X pins σ H s) : X.K.In s.heap := I.ok.mod.kin.keeps I.bk
theorem Inv.lt (I : Inv X pins σ H s) : X.env.locals < s.heap.objs.size := let ⟨_, hn, _⟩ := I.loc; hn.lt
theorem Inv.sz (I : Inv X pins σ H s) : X.s₀.heap.objs.size ≤ s.heap.objs.size := Nat.le_trans I.ok.above (Nat.le_of_lt I.lt)
theorem Inv.nofs (I : Inv X pins σ H s) {a : Addr} (h : s.heap.objs.size ≤ a) : a ∉ X.fs := fun hb => by
  obtain ⟨_, o, ho, _⟩ := I.ok.funs.mem hb
  exact absurd (Nat.lt_of_lt_of_le (Heap.lt_size ho) (Nat.le_trans I.sz h)) (Nat.lt_irrefl _)
theorem Inv.cne (I : Inv X pins σ H s) : ∀ x c, X.env.cells.lookup x = some c → c ≠ X.env.locals := fun x c e z => by
  obtain ⟨v, o, ho, hd⟩ := I.cell x c e
  obtain ⟨m, ⟨o', es, ep, ho', hd', _⟩, _⟩ := I.loc
  rw [z, ho'] at ho; cases ho; rw [hd'] at hd; cases hd
theorem Inv.funs (I : Inv X pins σ H s) : s.heap.FunFrames X.base X.outer := by
  have all : ∀ (l : List Env), (∀ b ∈ frs l, b ∈ X.fs) → X.s₀.heap.FunFrames X.base l → s.heap.FunFrames X.base l := by
    intro l
    induction l with
    | nil => intro _ _; trivial
    | cons env r ih =>
      intro hs hl
      obtain ⟨hk, ⟨L, o, hf, hn, ho, hd⟩, hr⟩ := hl
      have hL : L ∈ X.fs := hs L (by unfold frs; rw [List.filterMap_cons, hf]; exact List.mem_cons_self)
      obtain ⟨sl, e⟩ := I.base.slot L o ho (I.ok.frf L hL) hL fun z => I.ok.exfs L z hL
      exact ⟨hk, ⟨L, _, hf, hn, e, hd⟩, ih (fun b hb => hs b (by unfold frs; rw [List.filterMap_cons, hf]; exact List.mem_cons_of_mem _ hb)) hr⟩
  exact all X.outer (fun _ hb => hb) I.ok.funs

/-- the frames that run, for a call -/
theorem Inv.stack (I : Inv X pins σ H s) : s.heap.FunFrames X.base X.stack := by
  rcases I.ok.stk with e | ⟨e, hf⟩
  · rw [e]; exact I.funs
  · rw [e]
    obtain ⟨m, hn, _⟩ := I.loc
    refine .cons (by rw [I.ok.kind]; decide) hf hn ?_ I.funs
    exact Heap.get?_none_of_le (Nat.le_trans I.ok.bsz I.ok.above)
theorem Inv.stkSub (I : Inv X pins σ H s) : ∀ b ∈ frs X.stack, b ∈ X.env.locals :: X.fs := fun b hb => by
  rcases I.ok.stk with e | ⟨e, hf⟩
  · rw [e] at hb; exact List.mem_cons_of_mem _ hb
  · rw [e] at hb
    unfold frs at hb
    rw [List.filterMap_cons, hf] at hb
    exact hb
theorem Inv.stkFree (I : Inv X pins σ H s) : ∀ b ∈ frs X.stack, H b = none := fun b hb => by
  rcases List.mem_cons.mp (I.stkSub b hb) with e | hb
  · rw [e]; exact I.free
  · obtain ⟨_, o, ho, _⟩ := I.ok.funs.mem hb
    exact I.base.free b o ho (I.ok.frf b hb) fun z => I.ok.exfs b z hb

/-- THE STEP: the untracked objects but the frame and the records at ch are kept (the callers' frames up to slots), the frame's map is kept, the new abstract heap is held -/
theorem Inv.step {g' : Array GenState} {t' : Nat} {d' : Drawn} {ch : List Addr} (I : Inv X pins σ H s)
    (hch : ∀ b ∈ ch, (b ∈ X.ex ∨ X.s₀.heap.objs.size ≤ b) ∧ b ≠ X.env.locals ∧ (∀ x c, X.env.cells.lookup x = some c → c ≠ b) ∧ ∀ p ∈ X.pn ++ pins, p.1 ≠ b)
    (keep : ∀ b o, b ≠ X.env.locals → b ∉ X.fs → b ∉ ch → s.heap.get? b = some o → H b = none → h'.get? b = some o)
    (slot : ∀ b o, b ≠ X.env.locals → b ∈ X.fs → b ∉ ch → s.heap.get? b = some o → H b = none → ∃ sl, h'.get? b = some { o with slots := sl }) (free : ∀ b o, b ∉ ch → s.heap.get? b = some o → H b = none → H' b = none)
    (there : ∀ b o, b ∉ ch → s.heap.get? b = some o → ∃ o', h'.get? b = some o')
    (tups : ∀ b xs, H b = some (.tup xs) → H' b = some (.tup xs)) (frzs : ∀ b o u, H b = some (.frz o u) → H' b = some (.frz o u)) (tbls : ∀ b ps, H b = some (.tbl ps) → ∃ more, H' b = some (.tbl (ps ++ more)))
    (ns : ∀ m, s.heap.Ns X.env.locals m → h'.Ns X.env.locals m) (hok : HOk X.prog X.w H' h') (hg : AllBare g') :
    Inv X pins σ H' { s with heap := h', gens := g', drawn := d', toks := t' } := by
  have neL : ∀ b o, X.s₀.heap.get? b = some o → b ≠ X.env.locals := fun b o e => Nat.ne_of_lt (Nat.lt_of_lt_of_le (Heap.lt_size e) I.ok.above)
  have neC : ∀ b o, X.s₀.heap.get? b = some o → b ∉ X.ex → b ∉ ch := fun b o e hx hb => by
    rcases (hch b hb).1 with z | z
    · exact hx z
    · exact absurd (Nat.lt_of_lt_of_le (Heap.lt_size e) z) (Nat.lt_irrefl _)
  have cellK : ∀ x c, X.env.cells.lookup x = some c → ∀ v, s.heap.IsCell c v → h'.IsCell c v := fun x c e v ⟨o, ho, hd⟩ => by
    have nch : c ∉ ch := fun z => (hch c z).2.2.1 x c e rfl
    by_cases hc : c ∈ X.fs
    · obtain ⟨sl, q⟩ := slot c o (I.cne x c e) hc nch ho (I.freeC x c e)
      exact ⟨_, q, hd⟩
    · exact ⟨o, keep c o (I.cne x c e) hc nch ho (I.freeC x c e), hd⟩
  refine ⟨I.ok, I.os, hg, ⟨fun b o e n hb hx => ?_, fun b o e n hb hx => ?_, fun b o e n hx => ?_, fun b o e hx => ?_, fun b xs e => tups b xs (I.base.tups b xs e), fun b o xs e => frzs b o xs (I.base.frzs b o xs e), fun b ps e => ?_⟩, ?_, fun x c e => ?_, ?_, fun x c e => ?_, fun p hp => ?_, hok, I.len⟩
  · exact keep b o (neL b o e) hb (neC b o e hx) (I.base.keep b o e n hb hx) (I.base.free b o e n hx)
  · obtain ⟨sl, e1⟩ := I.base.slot b o e n hb hx
    obtain ⟨sl', e2⟩ := slot b _ (neL b o e) hb (neC b o e hx) e1 (I.base.free b o e n hx)
    exact ⟨sl', e2⟩
  · obtain ⟨o', e1⟩ := I.base.there b o e hx
    exact free b o' (neC b o e hx) e1 (I.base.free b o e n hx)
  · obtain ⟨o', e1⟩ := I.base.there b o e hx
    exact there b o' (neC b o e hx) e1
  · obtain ⟨m1, e1⟩ := I.base.tbls b ps e
    obtain ⟨m2, e2⟩ := tbls b _ e1
    exact ⟨m1 ++ m2, by rw [e2, Array.append_assoc]⟩
  · obtain ⟨m, hn, hl⟩ := I.loc
    refine ⟨m, ns m hn, fun i x v e1 e2 e3 => ?_⟩
    obtain ⟨u, r, l⟩ := hl i x v e1 e2 e3
    refine ⟨u, r, ?_⟩
    rcases l with l | ⟨k, c, e, z⟩
    · exact .inl l
    · exact .inr ⟨k, c, e, cellK x c e _ z⟩
  · obtain ⟨v, z⟩ := I.cell x c e
    exact ⟨v, cellK x c e v z⟩
  · obtain ⟨m, ⟨o, _, _, ho, _⟩, _⟩ := I.loc
    exact free _ o (fun z => (hch _ z).2.1 rfl) ho I.free
  · obtain ⟨v, o, ho, hd⟩ := I.cell x c e
    exact free c o (fun z => (hch c z).2.2.1 x c e rfl) ho (I.freeC x c e)
  · obtain ⟨e, n, ne, nf, d⟩ := I.pin p hp
    have nch : p.1 ∉ ch := fun z => (hch p.1 z).2.2.2 p hp rfl
    exact ⟨keep p.1 p.2 ne nf nch e n, free p.1 p.2 nch e n, ne, nf, d⟩
/-- .. where the frame's own object is kept too -/
theorem Inv.un {t' : Nat} (I : Inv X pins σ H s) (u : Un X.fs [] H H' s.heap h') (hok : HOk X.prog X.w H' h') : Inv X pins σ H' { s with heap := h', toks := t' } := by
  obtain ⟨m, ⟨o, es, ep, ho, r⟩, _⟩ := id I.loc
  obtain ⟨sl, hL⟩ := u.any ho I.free (by simp)
  exact I.step (g' := s.gens) (d' := s.drawn) (ch := []) (fun _ z => nomatch z) (fun b o _ hb _ e n => u.keep b o e n hb (by simp)) (fun b o _ hb _ e n => u.slot b o e n hb (by simp)) (fun b o _ e n => u.free b o e n (by simp)) (fun b o _ e => u.there b o e (by simp)) u.tups u.frzs u.tbls (fun m' hm => by
    obtain ⟨o', es', ep', ho', r'⟩ := hm
    rw [ho] at ho'; cases ho'
    exact ⟨_, es', ep', hL, r'⟩) hok I.bare
/-- behind a call (or a comprehension's block): the slots of this frame may have changed too, the records at ch may have turned -/
theorem Inv.call {g' : Array GenState} {t' : Nat} {d' : Drawn} {ch : List Addr} (I : Inv X pins σ H s) (u : Un (frs X.stack) ch H H' s.heap h') (hok : HOk X.prog X.w H' h') (hg : AllBare g')
    (hch : ∀ b ∈ ch, (b ∈ X.ex ∨ X.s₀.heap.objs.size ≤ b) ∧ b ≠ X.env.locals ∧ (∀ x c, X.env.cells.lookup x = some c → c ≠ b) ∧ ∀ p ∈ X.pn ++ pins, p.1 ≠ b) :
    Inv X pins σ H' { s with heap := h', gens := g', drawn := d', toks := t' } := by
  obtain ⟨m, ⟨o, es, ep, ho, r⟩, _⟩ := id I.loc
  obtain ⟨sl, hL⟩ := u.any ho I.free fun z => (hch _ z).2.1 rfl
  exact I.step (ch := ch) hch (fun b o hL hb hc e n => u.keep b o e n (fun z => (List.mem_cons.mp (I.stkSub b z)).elim hL hb) hc) (fun b o _ _ hc e n => u.any e n hc) (fun b o hc e n => u.free b o e n hc) (fun b o hc e => u.there b o e hc) u.tups u.frzs u.tbls (fun m' hm => by
    obtain ⟨o', es', ep', ho', r'⟩ := hm
    rw [ho] at ho'; cases ho'
    exact ⟨_, es', ep', hL, r'⟩) hok hg
/-- an untracked record of ours (an iterator) has turned -/
theorem Inv.turned {t' : Nat} {it : Addr} (I : Inv X pins σ H s) (k : ∀ b o, b ≠ it → s.heap.get? b = some o → h'.get? b = some o) (hn : H it = none) (hL : it ≠ X.env.locals)
    (h1 : it ∈ X.ex ∨ X.s₀.heap.objs.size ≤ it) (h2 : ∀ x c, X.env.cells.lookup x = some c → c ≠ it) (h3 : ∀ p ∈ X.pn ++ pins, p.1 ≠ it) : Inv X pins σ H { s with heap := h', toks := t' } := by
  have nit : ∀ b u, H b = some u → b ≠ it := fun b u e z => by rw [z, hn] at e; cases e
  refine I.step (g' := s.gens) (d' := s.drawn) (ch := [it]) (fun b hb => ?_) (fun b o _ _ hc e _ => k b o (fun z => hc (by simp [z])) e) (fun b o _ _ hc e _ => ⟨o.slots, k b o (fun z => hc (by simp [z])) e⟩) (fun _ _ _ _ n => n)
    (fun b o hc e => ⟨o, k b o (fun z => hc (by simp [z])) e⟩) (fun _ _ e => e) (fun _ _ _ e => e) (fun b ps e => ⟨#[], by rw [e]; simp⟩) (fun m hm => ?_) (fun b u e => ?_) I.bare
  · have e : b = it := by simpa using hb
    subst e
    exact ⟨h1, hL, h2, h3⟩
  · obtain ⟨o, es, ep, ho, r⟩ := hm
    exact ⟨o, es, ep, k _ o (Ne.symm hL) ho, r⟩
  · refine (I.hok b u e).stay (fun c v hc q => k c v ?_ q) (fun _ q => q) fun _ _ q => q
    rcases hc with z | z
    · rw [z]; exact nit b u e
    · exact nit c _ z
theorem Inv.tok (I : Inv X pins σ H s) (t : Nat) : Inv X pins σ H { s with toks := t } := I.un (h' := s.heap) (t' := t) Un.refl I.hok
/-- all objects kept -/
theorem Inv.kept {t' : Nat} (I : Inv X pins σ H s) (k : ∀ b u, s.heap.get? b = some u → h'.get? b = some u) : Inv X pins σ H { s with heap := h', toks := t' } := I.un (Un.kept k) (I.hok.kept k)
/-- a new object laid and tracked -/
theorem Inv.laid {a : Addr} {o : HO} {t' : Nat} (I : Inv X pins σ H s) (k : ∀ b u, s.heap.get? b = some u → h'.get? b = some u) (hp : s.heap.objs.size ≤ a) (new : ObjOk X.prog X.w (upd H a o) h' a o) :
    Inv X pins σ (upd H a o) { s with heap := h', toks := t' } := I.un (Un.laid k hp (I.hok.fresh hp)) (I.hok.laid k hp new)
/-- an object written -/
theorem Inv.write {x e : Addr} {o : HO} {t' : Nat} (I : Inv X pins σ H s) (mu : Mut (H x)) (he : e = x ∨ H e = some (.own x)) (k : ∀ b u, b ≠ e → s.heap.get? b = some u → h'.get? b = some u) (heo : ∃ u, h'.get? e = some u)
    (new : ObjOk X.prog X.w (upd H x o) h' x o) : Inv X pins σ (upd H x o) { s with heap := h', toks := t' } := I.un (Un.write mu he k heo) (I.hok.write mu he k heo new)
theorem Inv.pins_of {pins' : List (Addr × Obj)} (I : Inv X pins σ H s) (h : ∀ p ∈ pins', s.heap.get? p.1 = some p.2 ∧ H p.1 = none ∧ p.1 ≠ X.env.locals ∧ p.1 ∉ X.fs ∧ ∀ v, p.2.data ≠ .cell v) : Inv X pins' σ H s :=
  ⟨I.ok, I.os, I.bare, I.base, I.loc, I.cell, I.free, I.freeC, fun p hp => (List.mem_append.mp hp).elim (fun z => I.pin p (List.mem_append_left _ z)) (h p), I.hok, I.len⟩

theorem nodup_ix {N : List Str} (hN : N.Nodup) {i j : Nat} {x : Str} (a : N[i]? = some x) (b : N[j]? = some x) : i = j := by
  obtain ⟨h1, e1⟩ := List.getElem?_eq_some_iff.mp a
  obtain ⟨h2, e2⟩ := List.getElem?_eq_some_iff.mp b
  exact (List.getElem_inj hN).mp (e1.trans e2.symm)

/-- a name is stored; what changed -/
theorem store_ok2 {M : Model} {A : Around} {E : Value → Shared → Prop} {i : Nat} {x : Str} {v : V} {u : Value} {Q : Unit → Shared → Prop} (I : Inv X pins σ H s) (hN : X.N.Nodup) (hi : X.N[i]? = some x) (hx : Loc X.env.scope x) (r : RelV v u)
    (h : ∀ s', Inv X pins (σ.set i (some v)) H s' → (∃ a, Heap.SameBut a s.heap s'.heap ∧ (a = X.env.locals ∨ X.env.cells.lookup x = some a)) → Q () s') (hf : X.fn x = true ∨ X.env.scope.names.lookup x = some .local := by first | exact .inl rfl | exact .inr rfl | assumption) : wpAny M A (storeName X.env x u) Q E s := by
  obtain ⟨m, hn, hl⟩ := id I.loc
  have hcls : (X.env.scope.kind == .class || (X.env.scope.kind == .module && X.env.locals != X.env.globals)) = false := by rw [I.ok.kind]; rfl
  have hiσ : i < σ.length := by rw [I.len]; exact (List.getElem?_eq_some_iff.mp hi).1
  have cne := I.cne
  have tracked : ∀ {a : Addr} {h' : Heap}, (∃ o, s.heap.get? a = some o ∧ H a = none) → Heap.SameBut a s.heap h' → HOk X.prog X.w H h' := fun {a h'} ha hs b ob e => by
    obtain ⟨_, _, hfree⟩ := ha
    refine (I.hok b ob e).stay (fun c w' hc q => (hs.2 c ?_).trans q) (fun _ q => q) fun _ _ q => q
    rintro rfl
    rcases hc with rfl | hc
    · rw [hfree] at e; cases e
    · rw [hfree] at hc; cases hc
  rcases hx with hk | hk
  · refine wpAny_storeName_local hk hn (fun h' hn' hs => ?_) hcls
    obtain ⟨oL, _, _, hoL, _⟩ := id hn
    refine h _ ⟨I.ok, I.os, I.bare, ⟨fun b o e n hb hx => ?_, fun b o e n hb hx => ?_, I.base.free, fun b o e hx => ?_, I.base.tups, I.base.frzs, I.base.tbls⟩, ⟨_, hn', fun j y v' e1 e2 e3 => ?_⟩, fun y c e => ?_, I.free, I.freeC, fun p hp => ?_, tracked ⟨oL, hoL, I.free⟩ hs, by simpa using I.len⟩ ⟨_, hs, .inl rfl⟩
    · exact (hs.2 b (Nat.ne_of_lt (Nat.lt_of_lt_of_le (Heap.lt_size e) I.ok.above))).trans (I.base.keep b o e n hb hx)
    · obtain ⟨sl, e1⟩ := I.base.slot b o e n hb hx
      exact ⟨sl, (hs.2 b (Nat.ne_of_lt (Nat.lt_of_lt_of_le (Heap.lt_size e) I.ok.above))).trans e1⟩
    · obtain ⟨o', e1⟩ := I.base.there b o e hx
      exact ⟨o', (hs.2 b (Nat.ne_of_lt (Nat.lt_of_lt_of_le (Heap.lt_size e) I.ok.above))).trans e1⟩
    · by_cases hj : j = i
      · subst hj
        rw [hi] at e1; cases e1
        rw [List.getElem?_set_self hiσ] at e2
        cases e2
        exact ⟨u, r, .inl ⟨hk, by simp⟩⟩
      · rw [List.getElem?_set_ne (Ne.symm hj)] at e2
        obtain ⟨u', r', q⟩ := hl j y v' e1 e2 e3
        refine ⟨u', r', ?_⟩
        rcases q with ⟨k, e⟩ | ⟨k, c, e, z⟩
        · refine .inl ⟨k, ?_⟩
          have : y ≠ x := fun e => hj (nodup_ix hN e1 (e ▸ hi))
          simp [this, e]
        · exact .inr ⟨k, c, e, z.sameBut hs (cne y c e)⟩
    · obtain ⟨w', z⟩ := I.cell y c e
      exact ⟨w', z.sameBut hs (cne y c e)⟩
    · obtain ⟨e, n, ne, nf, d⟩ := I.pin p hp
      exact ⟨(hs.2 p.1 ne).trans e, n, ne, nf, d⟩
  · have hfn : X.fn x = true := by
      rcases hf with z | z
      · exact z
      · rw [z] at hk; cases hk
    obtain ⟨c, hc⟩ := I.ok.has x (.inl hk)
    obtain ⟨w', z⟩ := I.cell x c hc
    refine wpAny_storeName_cell I.ok.kind hk hc z (fun h' hc' hs => ?_)
    obtain ⟨oc, hoc, hocd⟩ := id z
    refine h { s with heap := h' } ⟨I.ok, I.os, I.bare, ⟨fun b o e n hb hx => ?_, fun b o e n hb hx => ?_, I.base.free, fun b o e hx => ?_, I.base.tups, I.base.frzs, I.base.tbls⟩, ⟨m, hn.sameBut hs (Ne.symm (cne x c hc)), fun j y v' e1 e2 e3 => ?_⟩, fun y c' e => ?_, I.free, I.freeC, fun p hp => ?_, tracked ⟨oc, hoc, I.freeC x c hc⟩ hs, by simpa using I.len⟩ ⟨c, hs, .inr hc⟩
    · exact (hs.2 b (Nat.ne_of_lt (Nat.lt_of_lt_of_le (Heap.lt_size e) (I.ok.cab x c hfn hc)))).trans (I.base.keep b o e n hb hx)
    · obtain ⟨sl, e1⟩ := I.base.slot b o e n hb hx
      exact ⟨sl, (hs.2 b (Nat.ne_of_lt (Nat.lt_of_lt_of_le (Heap.lt_size e) (I.ok.cab x c hfn hc)))).trans e1⟩
    · obtain ⟨o', e1⟩ := I.base.there b o e hx
      exact ⟨o', (hs.2 b (Nat.ne_of_lt (Nat.lt_of_lt_of_le (Heap.lt_size e) (I.ok.cab x c hfn hc)))).trans e1⟩
    · by_cases hj : j = i
      · subst hj
        rw [hi] at e1; cases e1
        rw [List.getElem?_set_self hiσ] at e2
        cases e2
        exact ⟨u, r, .inr ⟨.inl hk, c, hc, hc'⟩⟩
      · rw [List.getElem?_set_ne (Ne.symm hj)] at e2
        obtain ⟨u', r', q⟩ := hl j y v' e1 e2 e3
        refine ⟨u', r', ?_⟩
        rcases q with q | ⟨k, c', e, z'⟩
        · exact .inl q
        · refine .inr ⟨k, c', e, z'.sameBut hs ?_⟩
          rintro rfl
          exact hj (nodup_ix hN e1 (I.ok.inj _ _ _ e hc ▸ hi))
    · by_cases hcc : c' = c
      · subst hcc; exact ⟨_, hc'⟩
      · obtain ⟨w2, z2⟩ := I.cell y c' e
        exact ⟨w2, z2.sameBut hs hcc⟩
    · obtain ⟨e, n, ne, nf, d⟩ := I.pin p hp
      refine ⟨(hs.2 p.1 ?_).trans e, n, ne, nf, d⟩
      intro q
      rw [q, hoc] at e
      have q' : oc = p.2 := Option.some.inj e
      exact d w' (by rw [← q']; exact hocd)
theorem store_ok {M : Model} {A : Around} {E : Value → Shared → Prop} {i : Nat} {x : Str} {v : V} {u : Value} {Q : Unit → Shared → Prop} (I : Inv X pins σ H s) (hN : X.N.Nodup) (hi : X.N[i]? = some x) (hx : Loc X.env.scope x) (r : RelV v u)
    (h : ∀ s', Inv X pins (σ.set i (some v)) H s' → Q () s') (hf : X.fn x = true ∨ X.env.scope.names.lookup x = some .local := by first | exact .inl rfl | exact .inr rfl | assumption) : wpAny M A (storeName X.env x u) Q E s :=
  store_ok2 I hN hi hx r (fun s' I' _ => h s' I') hf
/-- behind a call or a block, the state as it is -/
theorem Inv.call' {s' : Shared} {ch : List Addr} (I : Inv X pins σ H s) (ho : s'.os = s.os) (u : Un (frs X.stack) ch H H' s.heap s'.heap) (hok : HOk X.prog X.w H' s'.heap) (hg : AllBare s'.gens)
    (hch : ∀ b ∈ ch, (b ∈ X.ex ∨ X.s₀.heap.objs.size ≤ b) ∧ b ≠ X.env.locals ∧ (∀ x c, X.env.cells.lookup x = some c → c ≠ b) ∧ ∀ p ∈ X.pn ++ pins, p.1 ≠ b) : Inv X pins σ H' s' := by
  obtain ⟨h', g', d', t', o'⟩ := s'
  have e : o' = s.os := ho
  subst e
  exact I.call (g' := g') (t' := t') (d' := d') u hok hg hch
end

/-! ### the judgements -/
/-- an exception: its class, its own dict's address (where it has one), the abstract heap behind it -/
abbrev XK := Value → Option Addr → Hp → Prop
abbrev St := List (Option V)
abbrev VK := V → Hp → Prop
/-- an expression's reading; a test's; an argument list's -/
abbrev TE := St → Hp → VK → Prop
abbrev TT := St → Hp → (Bool → Hp → Prop) → Prop
abbrev TA := St → Hp → (List V → Hp → Prop) → Prop
/-- what is wanted behind a statement -/
structure Ends where
  nx : St → Hp → Prop
  rt : VK
  bk : St → Hp → Prop := fun _ _ => False
  ct : St → Hp → Prop := fun _ _ => False
abbrev TS := Ends → St → Hp → Prop

def EP (X : Cx) (pins : List (Addr × Obj)) (σ : St) (Q : VK) (u : Value) (s' : Shared) : Prop := ∃ v H', Inv X pins σ H' s' ∧ RelV v u ∧ Q v H'
def TP (X : Cx) (pins : List (Addr × Obj)) (σ : St) (Q : Bool → Hp → Prop) (b : Bool) (s' : Shared) : Prop := ∃ H', Inv X pins σ H' s' ∧ Q b H'
def AP (X : Cx) (pins : List (Addr × Obj)) (σ : St) (Q : List V → Hp → Prop) (us : List Value) (s' : Shared) : Prop := ∃ vs H', Inv X pins σ H' s' ∧ Vals vs us ∧ Q vs H'
def SP (X : Cx) (pins : List (Addr × Obj)) (D : Ends) (f : Flow) (s' : Shared) : Prop :=
  match f with
  | .next => ∃ σ' H', Inv X pins σ' H' s' ∧ D.nx σ' H'
  | .brk => ∃ σ' H', Inv X pins σ' H' s' ∧ D.bk σ' H'
  | .cont => ∃ σ' H', Inv X pins σ' H' s' ∧ D.ct σ' H'
  | .ret u => ∃ v σ' H', Inv X pins σ' H' s' ∧ RelV v u ∧ D.rt v H'

def PE (X : Cx) (e : Expr) (t : TE) : Prop :=
  ∀ (pins : List (Addr × Obj)) (s : Shared) (σ : St) (H : Hp) (Q : VK), Inv X pins σ H s → t σ H Q → wpAny (model X.prog X.w) X.A (eval e X.env) (EP X pins σ Q) X.xe s
def PT (X : Cx) (e : Expr) (t : TT) : Prop :=
  ∀ (pins : List (Addr × Obj)) (s : Shared) (σ : St) (H : Hp) (Q : Bool → Hp → Prop), Inv X pins σ H s → t σ H Q → wpAny (model X.prog X.w) X.A (isTrue e X.env (eval e X.env)) (TP X pins σ Q) X.xe s
/-- a test whatever its 'whole' is (and, or) -/
def PW (X : Cx) (e : Expr) (t : TT) : Prop :=
  ∀ (whole : Sem Value) (pins : List (Addr × Obj)) (s : Shared) (σ : St) (H : Hp) (Q : Bool → Hp → Prop), Inv X pins σ H s → t σ H Q → wpAny (model X.prog X.w) X.A (isTrue e X.env whole) (TP X pins σ Q) X.xe s
theorem PW.pt {X : Cx} {e : Expr} {t : TT} (h : PW X e t) : PT X e t := h _
/-- an argument list (no star), from the left -/
def PA (X : Cx) (es : List Expr) (t : TA) : Prop :=
  ∀ (pos : Pos) (pins : List (Addr × Obj)) (s : Shared) (σ : St) (H : Hp) (Q : List V → Hp → Prop), Inv X pins σ H s → t σ H Q → wpAny (model X.prog X.w) X.A (spliced (backTo pos (starEach es X.env))) (AP X pins σ Q) X.xe s
def PS (X : Cx) (st : Stmt) (t : TS) : Prop :=
  ∀ (pins : List (Addr × Obj)) (s : Shared) (σ : St) (H : Hp) (D : Ends), Inv X pins σ H s → t D σ H → wpAny (model X.prog X.w) X.A (exec st X.env) (SP X pins D) X.xe s
def PSs (X : Cx) (st : List Stmt) (t : TS) : Prop :=
  ∀ (pins : List (Addr × Obj)) (s : Shared) (σ : St) (H : Hp) (D : Ends), Inv X pins σ H s → t D σ H → wpAny (model X.prog X.w) X.A (execs st X.env) (SP X pins D) X.xe s
/-- weaken the end -/
theorem thn {α : Type} {t : Sem α} {Q Q' : α → Shared → Prop} {M : Model} {A : Around} {E : Value → Shared → Prop} {s : Shared} (h : wpAny M A t Q E s) (hQ : ∀ a s, Q a s → Q' a s) : wpAny M A t Q' E s := wpAny_mono h hQ fun _ _ x => x
end L2

namespace L2
open PySem PySem.Spec PyProof.Rows
section
variable {X : Cx}

/-! ### names and constants -/
def tVar (i : Nat) : TE := fun σ H Q => ∃ v, σ[i]? = some (some v) ∧ Q v H
def tC (v : V) : TE := fun _ H Q => Q v H
theorem pe_var {i : Nat} {x : Str} {pos : Pos} (hN : X.N[i]? = some x) (hv : Vis X.env.scope x) (hd : (x == ("__debug__" : Str)) = false := by decide) (hcd : (x == ("__classdict__" : Str)) = false := by decide) : PE X (.Name x pos) (tVar i) := by
  intro pins s σ H Q I h
  obtain ⟨v, e, h⟩ := h
  obtain ⟨m, hn, hl⟩ := I.loc
  obtain ⟨u, r, l⟩ := hl i x v hN e hv
  have fin : EP X pins σ Q u s := ⟨v, H, I, r, h⟩
  rcases l with ⟨hk, hm⟩ | ⟨hk, c, hc, hcell⟩
  · exact wpAny_Name (wpAny_loadName_local I.ok.kind hk hn hm fin) hd
  · rcases hk with hk | hk
    · exact wpAny_Name (wpAny_loadName_cell I.ok.kind hk hc hcell fin) hd
    · exact wpAny_Name (wpAny_loadName_free I.ok.kind hk hc hcell fin hcd) hd
theorem pe_int {i j pos} : PE X (.Constant (.int i) j pos) (tC (.int i)) := fun _ _ _ H _ I h => wpAny_Constant_int ⟨.int i, H, I.tok _, ⟨_, rfl⟩, h⟩
theorem pe_bl {b j pos} : PE X (.Constant (.bool b) j pos) (tC (.bl b)) := fun _ _ _ H _ I h => Constant_bool ⟨.bl b, H, I, rfl, h⟩
theorem pe_non {j pos} : PE X (.Constant .none j pos) (tC .non) := fun _ _ _ H _ I h => Constant_none ⟨.non, H, I, rfl, h⟩
theorem pe_str {x j pos} : PE X (.Constant (.str x) j pos) (tC (.str x)) := fun _ _ _ H _ I h => Calls.Constant_str ⟨.str x, H, I.tok _, ⟨_, rfl⟩, h⟩

/-- a global name of the def -/
def Gl (X : Cx) (x : Str) : Prop := X.env.kindOf x = some .globalImplicit
theorem ld_glob {E : Value → Shared → Prop} {pins : List (Addr × Obj)} {s : Shared} {σ : St} {H : Hp} {x : Str} {u : Value} {pos : Pos} {Q : Value → Shared → Prop} (I : Inv X pins σ H s) (hg : Gl X x) (hm : X.mg x = some u) (h : Q u s)
    (hd : (x == ("__debug__" : Str)) = false := by decide) : wpAny (model X.prog X.w) X.A (eval (.Name x pos) X.env) Q E s :=
  Calls.Name_function_global I.ok.kind hg (Calls.loadGlobal_global (by rw [I.ok.glob]; exact I.mod.glob.keeps I.bk) hm h) hd
theorem ld_blt {E : Value → Shared → Prop} {pins : List (Addr × Obj)} {s : Shared} {σ : St} {H : Hp} {x : Str} {u : Value} {pos : Pos} {Q : Value → Shared → Prop} (I : Inv X pins σ H s) (hg : Gl X x) (hm : X.mg x = none) (hv : bootBuiltins x = some u) (h : Q u s)
    (hn : x ≠ "__name__" := by decide) (hd : (x == ("__debug__" : Str)) = false := by decide) : wpAny (model X.prog X.w) X.A (eval (.Name x pos) X.env) Q E s := by
  obtain ⟨mb, h1, h2⟩ := I.mod.blt
  exact Calls.Name_function_global I.ok.kind hg (Calls.loadGlobal_builtin (by rw [I.ok.glob]; exact I.mod.glob.keeps I.bk) hm (by rw [I.ok.blt]; exact h1.keeps I.bk) ((h2 x hn).trans hv) h) hd
/-- a module's constant, a class, a function, as a value -/
theorem pe_glob {x : Str} {v : V} {u : Value} {pos : Pos} (hg : Gl X x) (hm : X.mg x = some u) (r : RelV v u) (hd : (x == ("__debug__" : Str)) = false := by decide) : PE X (.Name x pos) (tC v) :=
  fun _ _ _ H _ I h => ld_glob I hg hm ⟨v, H, I, r, h⟩ hd
theorem pe_bltn {x : Str} {v : V} {u : Value} {pos : Pos} (hg : Gl X x) (hm : X.mg x = none) (hv : bootBuiltins x = some u) (r : RelV v u) (hn : x ≠ "__name__" := by decide) (hd : (x == ("__debug__" : Str)) = false := by decide) : PE X (.Name x pos) (tC v) :=
  fun _ _ _ H _ I h => ld_blt I hg hm hv ⟨v, H, I, r, h⟩ hn hd

/-! ### arithmetic -/
variable {a b : Expr} {ta tb : TE} {pos : Pos}
/-! ### comparisons -/
/-- a comparison as a value, as a test -/
def tB (t : TE) : TT := fun σ H Q => t σ H fun x H1 => ∃ c, x = .bl c ∧ Q c H1
/-- an expression whose value is a bool, as a test -/
theorem pt_val {e : Expr} {t : TE} (h : PE X e t) (he : ∀ whole, isTrue e X.env whole = (do let v ← whole; standAt e.pos; holding [v] (truthy v)) := by intro _; rfl) : PT X e (tB t) := by
  intro pins s σ H Q I hw
  refine isTrue_plain (thn (h pins s σ H _ I hw) fun v s1 ⟨x, H1, I1, r1, q1⟩ => ?_) (he _)
  obtain ⟨d, rfl, q⟩ := q1
  cases r1
  exact wpAny_truthy_bool ⟨H1, I1, q⟩

/-! ### and, or, not -/
variable {tA tB' : TT} {rest : List Expr}
def tAnd (t u : TT) : TT := fun σ H Q => t σ H fun c H1 => if c = true then u σ H1 Q else Q false H1
def tOr (t u : TT) : TT := fun σ H Q => t σ H fun c H1 => if c = true then Q true H1 else u σ H1 Q
def tNot (t : TT) : TT := fun σ H Q => t σ H fun c H1 => Q (!c) H1
theorem pw_and1 (ha : PT X a tA) : PW X (.BoolOp .And [a] pos) tA := by
  intro wh pins s σ H Q I h
  refine isTrue_and (thn (ha pins s σ H Q I h) fun c s1 e => ?_)
  cases c with
  | true => exact isTrue_and_nil e
  | false => exact e
theorem pw_or1 (ha : PT X a tA) : PW X (.BoolOp .Or [a] pos) tA := by
  intro wh pins s σ H Q I h
  refine isTrue_or (thn (ha pins s σ H Q I h) fun c s1 e => ?_)
  cases c with
  | false => exact isTrue_or_nil e
  | true => exact e
theorem pw_and (ha : PT X a tA) (hb : PW X (.BoolOp .And (b :: rest) pos) tB') : PW X (.BoolOp .And (a :: b :: rest) pos) (tAnd tA tB') := by
  intro wh pins s σ H Q I h
  refine isTrue_and (thn (ha pins s σ H _ I h) fun c s1 ⟨H1, I1, q1⟩ => ?_)
  cases c with
  | true => exact hb wh pins s1 σ H1 Q I1 q1
  | false => exact ⟨H1, I1, q1⟩
theorem pw_or (ha : PT X a tA) (hb : PW X (.BoolOp .Or (b :: rest) pos) tB') : PW X (.BoolOp .Or (a :: b :: rest) pos) (tOr tA tB') := by
  intro wh pins s σ H Q I h
  refine isTrue_or (thn (ha pins s σ H _ I h) fun c s1 ⟨H1, I1, q1⟩ => ?_)
  cases c with
  | true => exact ⟨H1, I1, q1⟩
  | false => exact hb wh pins s1 σ H1 Q I1 q1
theorem pt_not (ha : PT X a tA) : PT X (.UnaryOp .Not a pos) (tNot tA) := by
  intro pins s σ H Q I h
  exact isTrue_not (ha pins s σ H (fun c H1 => Q (!c) H1) I h)
/-- .. as values (bools) -/
def tAndV (ta tb : TE) : TE := fun σ H Q => ta σ H fun x H1 => ∃ c, x = .bl c ∧ if c = true then tb σ H1 Q else Q (.bl false) H1
def tNotV (ta : TE) : TE := fun σ H Q => ta σ H fun x H1 => ∃ c, x = .bl c ∧ Q (.bl (!c)) H1
theorem pe_one {op} {t : TE} (h : PE X a t) : PE X (.BoolOp op [a] pos) t := fun pins s σ H Q I hw => BoolOp_one (h pins s σ H Q I hw)
theorem pe_and (ha : PE X a ta) (hb : PE X (.BoolOp .And (b :: rest) pos) tb) : PE X (.BoolOp .And (a :: b :: rest) pos) (tAndV ta tb) := by
  intro pins s σ H Q I h
  refine BoolOp_and (thn (ha pins s σ H _ I h) fun v s1 ⟨x, H1, I1, r1, q1⟩ => ?_)
  obtain ⟨c, rfl, q1⟩ := q1
  cases r1
  refine wpAny_truthy_bool ?_
  cases c with
  | true => exact hb pins s1 σ H1 Q I1 q1
  | false => exact ⟨.bl false, H1, I1, rfl, q1⟩
theorem pe_not (ha : PE X a ta) : PE X (.UnaryOp .Not a pos) (tNotV ta) := by
  intro pins s σ H Q I h
  refine UnaryOp_ (thn (ha pins s σ H _ I h) fun v s1 ⟨x, H1, I1, r1, q1⟩ => ?_)
  obtain ⟨c, rfl, q1⟩ := q1
  cases r1
  exact not_of (wpAny_truthy_bool ⟨.bl (!c), H1, I1, rfl, q1⟩)
/-- a if t else b -/
def tIf (t : TT) (ta tb : TE) : TE := fun σ H Q => t σ H fun c H1 => if c = true then ta σ H1 Q else tb σ H1 Q
theorem pe_ifExp {c : Expr} (hc : PT X c tA) (ha : PE X a ta) (hb : PE X b tb) : PE X (.IfExp c a b pos) (tIf tA ta tb) := by
  intro pins s σ H Q I h
  refine wpAny_IfExp (thn (hc pins s σ H _ I h) fun d s1 ⟨H1, I1, q1⟩ => ?_)
  cases d with
  | true => exact ha pins s1 σ H1 Q I1 q1
  | false => exact hb pins s1 σ H1 Q I1 q1
end
end L2

namespace L2
open PySem PySem.Spec PyProof.Rows

/-! ### a list, a tuple that is read: tracked, frozen, or an object of the module -/
def SqL (K : PySem.W.Frag) (H : Hp) (a : Addr) (xs : List V) : Prop :=
  Rd H a (.lst xs) ∨
    ∃ (o : Obj) (its : Array Value) (n : Nat), K.lookup a = some o ∧ o.cls = .type "list" ∧ o.dict = none ∧ o.data = .seq its n ∧ its.size ≤ sizeLine ∧ Vals xs its.toList
def SqT (K : PySem.W.Frag) (H : Hp) (a : Addr) (xs : List V) : Prop :=
  Rd H a (.tup xs) ∨
    ∃ (o : Obj) (its : Array Value) (n : Nat), K.lookup a = some o ∧ o.cls = .type "tuple" ∧ o.data = .seq its n ∧ its.size ≤ sizeLine ∧ Vals xs its.toList
def absV : Value → Option V
  | .none => some .non
  | .bool b => some (.bl b)
  | .int i _ => some (.int i)
  | .str x _ => some (.str x)
  | .bytes b _ => some (.byt b)
  | .float b _ => some (.flt b)
  | .ref a => some (.ref a)
  | .type n => some (.ty n)
  | _ => none
theorem RelV.abs {x : V} {u : Value} (r : RelV x u) : absV u = some x := by
  cases x with
  | non => cases r; rfl
  | bl _ => cases r; rfl
  | int _ => obtain ⟨t, rfl⟩ := r; rfl
  | str _ => obtain ⟨t, rfl⟩ := r; rfl
  | byt _ => obtain ⟨t, rfl⟩ := r; rfl
  | flt _ => obtain ⟨t, rfl⟩ := r; rfl
  | ref _ => cases r; rfl
  | ty _ => cases r; rfl
theorem RelV.inj {x y : V} {u : Value} (r : RelV x u) (q : RelV y u) : x = y := Option.some.inj (r.abs.symm.trans q.abs)
theorem Vals.inj {xs ys : List V} {us : List Value} (h : Vals xs us) (h' : Vals ys us) : xs = ys := by
  induction h generalizing ys with
  | nil => cases h'; rfl
  | cons r t ih => cases h' with
    | cons r' t' => rw [r.inj r', ih t']
section
variable {X : Cx} {pins : List (Addr × Obj)} {σ : St} {H : Hp} {s : Shared} {a : Addr} {xs ys : List V}
theorem SqL.of {K : PySem.W.Frag} (h : H a = some (.lst xs)) : SqL K H a xs := .inl (.inl h)
theorem SqT.of {K : PySem.W.Frag} (h : H a = some (.tup xs)) : SqT K H a xs := .inl (.inl h)
theorem Inv.list (I : Inv X pins σ H s) (h : SqL X.K H a xs) : ∃ its : List Value, Vals xs its ∧ PlainL s.heap a its.toArray ∧ xs.length ≤ sizeLine := by
  rcases h with h | ⟨o, its, n, hk, hc, hd, hs, hz, r⟩
  · obtain ⟨z, its, n, r, e⟩ := h.ok I.hok
    exact ⟨its, r, ⟨_, n, e, rfl, rfl, rfl⟩, z⟩
  · refine ⟨its.toList, r, ⟨o, n, I.kIn a o hk, hc, hd, by simpa using hs⟩, ?_⟩
    have e := r.length
    simp only [Array.length_toList] at e
    omega
theorem Inv.tuple (I : Inv X pins σ H s) (h : SqT X.K H a xs) : ∃ its : List Value, Vals xs its ∧ IsTup s.heap a its.toArray ∧ xs.length ≤ sizeLine := by
  rcases h with h | ⟨o, its, n, hk, hc, hs, hz, r⟩
  · obtain ⟨z, its, r, p⟩ := h.ok I.hok
    exact ⟨its, r, p, z⟩
  · refine ⟨its.toList, r, ⟨o, I.kIn a o hk, hc, n, by simpa using hs⟩, ?_⟩
    have e := r.length
    simp only [Array.length_toList] at e
    omega
theorem Inv.list_inj (I : Inv X pins σ H s) (h : SqL X.K H a xs) (h' : SqL X.K H a ys) : xs = ys := by
  obtain ⟨its, r, ⟨o, n, e, _, _, d⟩, _⟩ := I.list h
  obtain ⟨its', r', ⟨o', n', e', _, _, d'⟩, _⟩ := I.list h'
  rw [e] at e'; cases e'
  rw [d] at d'
  injection d' with d1 _
  have : its = its' := by simpa using congrArg Array.toList d1
  subst this
  exact r.inj r'
end

/-! ### another wish about exceptions -/
abbrev Cx.wish (X : Cx) (E : Value → Shared → Prop) : Cx := { X with xe := E }
/-- no exception leaves -/
abbrev Cx.nox (X : Cx) : Cx := X.wish fun _ _ => False
theorem Cx.Ok.wish {X : Cx} (ok : X.Ok) (E : Value → Shared → Prop) : (X.wish E).Ok :=
  ⟨ok.mod, ok.kind, ok.glob, ok.blt, ok.above, ok.inj, ok.has, ok.cab, ok.hd, ok.frames, ok.stk, ok.exf, ok.bs, ok.bsz, ok.noex, ok.exfs, ok.funs, ok.frf⟩
theorem Cx.Ok.unwish {X : Cx} {E : Value → Shared → Prop} (ok : (X.wish E).Ok) : X.Ok :=
  ⟨ok.mod, ok.kind, ok.glob, ok.blt, ok.above, ok.inj, ok.has, ok.cab, ok.hd, ok.frames, ok.stk, ok.exf, ok.bs, ok.bsz, ok.noex, ok.exfs, ok.funs, ok.frf⟩
section
variable {X : Cx} {pins : List (Addr × Obj)} {σ : St} {H : Hp} {s : Shared} {E : Value → Shared → Prop}
theorem Inv.wish (I : Inv X pins σ H s) (E : Value → Shared → Prop) : Inv (X.wish E) pins σ H s := ⟨I.ok.wish E, I.os, I.bare, I.base, I.loc, I.cell, I.free, I.freeC, I.pin, I.hok, I.len⟩
theorem Inv.unwish (I : Inv (X.wish E) pins σ H s) : Inv X pins σ H s := ⟨I.ok.unwish, I.os, I.bare, I.base, I.loc, I.cell, I.free, I.freeC, I.pin, I.hok, I.len⟩
theorem SP.unwish {D : Ends} {f : Flow} {s' : Shared} (h : SP (X.wish E) pins D f s') : SP X pins D f s' := by
  cases f with
  | next => obtain ⟨σ', H', I, q⟩ := h; exact ⟨σ', H', I.unwish, q⟩
  | brk => obtain ⟨σ', H', I, q⟩ := h; exact ⟨σ', H', I.unwish, q⟩
  | cont => obtain ⟨σ', H', I, q⟩ := h; exact ⟨σ', H', I.unwish, q⟩
  | ret u => obtain ⟨v, σ', H', I, r, q⟩ := h; exact ⟨v, σ', H', I.unwish, r, q⟩
theorem PSs.nox {st : List Stmt} {t : TS} (h : PSs X.nox st t) : PSs X st t := fun pins s σ H D I hw =>
  wpAny_mono (h pins s σ H D (I.wish _) hw) (fun _ _ q => q.unwish) fun _ _ z => False.elim z
end

/-! ### blocks and small statements -/
section
variable {X : Cx} {st : Stmt} {rest : List Stmt} {t u : TS} {e : Expr} {te : TE} {pos : Pos}
def tNext : TS := fun D σ H => D.nx σ H
def tSeq (t u : TS) : TS := fun D σ H => t { D with nx := u D } σ H
theorem pss_nil : PSs X [] tNext := fun _ _ σ H _ I h => wpAny_execs_nil ⟨σ, H, I, h⟩
theorem pss_cons (h1 : PS X st t) (h2 : PSs X rest u) : PSs X (st :: rest) (tSeq t u) := by
  intro pins s σ H D I h
  refine wpAny_execs_cons (thn (h1 pins s σ H { D with nx := u D } I h) fun f s1 q => ?_)
  cases f with
  | next =>
    obtain ⟨σ', H', I', q⟩ := q
    exact h2 pins s1 σ' H' D I' q
  | ret v => exact q
  | brk => exact q
  | cont => exact q
theorem pss_one (h1 : PS X st t) : PSs X [st] t := by
  intro pins s σ H D I h
  refine wpAny_execs_cons (thn (h1 pins s σ H D I h) fun f s1 q => ?_)
  cases f with
  | next => exact wpAny_execs_nil q
  | ret v => exact q
  | brk => exact q
  | cont => exact q
/-- in a def's body nothing is shown -/
theorem Inv.quiet {pins : List (Addr × Obj)} {σ : St} {H : Hp} {s : Shared} (I : Inv X pins σ H s) : interactive X.env = false := by simp [interactive, I.ok.kind]
/-- an expression whose value is dropped -/
def tDrop (te : TE) : TS := fun D σ H => te σ H fun _ H1 => D.nx σ H1
theorem ps_expr (he : PE X e te) (hs : swapsWith e none pos.line X.env = pure false := by rfl) : PS X (.Expr e pos) (tDrop te) := by
  intro pins s σ H D I h
  exact wpAny_Expr_any (thn (he pins s σ H _ I h) fun v s1 ⟨x, H1, I1, r1, q1⟩ => ⟨σ, H1, I1, q1⟩) I.quiet hs
def tRet (te : TE) : TS := fun D σ H => te σ H D.rt
theorem ps_ret (he : PE X e te) : PS X (.Return (some e) pos) (tRet te) := by
  intro pins s σ H D I h
  exact wpAny_Return_some (thn (he pins s σ H _ I h) fun v s1 ⟨x, H1, I1, r1, q1⟩ => ⟨x, σ, H1, I1, r1, q1⟩)
def tRetN : TS := fun D _ H => D.rt .non H
theorem ps_retN : PS X (.Return none pos) tRetN := fun _ _ σ H _ I h => wpAny_Return_none ⟨.non, σ, H, I, rfl, h⟩
def tIfS (c : TT) (t u : TS) : TS := fun D σ H => c σ H fun b H1 => if b = true then t D σ H1 else u D σ H1
theorem ps_if {c : Expr} {a b : List Stmt} {tc : TT} (hc : PT X c tc) (ha : PSs X a t) (hb : PSs X b u) : PS X (.If c a b pos) (tIfS tc t u) := by
  intro pins s σ H D I h
  refine wpAny_If (thn (hc pins s σ H _ I h) fun d s1 ⟨H1, I1, q1⟩ => ?_)
  cases d with
  | true => exact ha pins s1 σ H1 D I1 q1
  | false => exact hb pins s1 σ H1 D I1 q1
end

/-! ### targets -/
abbrev TG := V → St → Hp → (St → Hp → Prop) → Prop
abbrev TGs := List V → St → Hp → (St → Hp → Prop) → Prop
def PG (X : Cx) (target : Expr) (t : TG) : Prop :=
  ∀ (pins : List (Addr × Obj)) (s : Shared) (σ : St) (H : Hp) (v : V) (u : Value) (Q : St → Hp → Prop), Inv X pins σ H s → RelV v u → t v σ H Q →
    wpAny (model X.prog X.w) X.A (assign target X.env u) (fun _ s' => ∃ σ' H', Inv X pins σ' H' s' ∧ Q σ' H') X.xe s
/-- several targets, one after another -/
def PGs (X : Cx) (ts : List Expr) (t : TGs) : Prop :=
  ∀ (pins : List (Addr × Obj)) (s : Shared) (σ : St) (H : Hp) (vs : List V) (us : List Value) (Q : St → Hp → Prop), Inv X pins σ H s → Vals vs us → t vs σ H Q →
    wpAny (model X.prog X.w) X.A (assignInOrder ((assignEach ts X.env).map (·.2)) us) (fun _ s' => ∃ σ' H', Inv X pins σ' H' s' ∧ Q σ' H') X.xe s
/-- o[i] = v, by values -/
abbrev TSet := V → V → V → Hp → (Hp → Prop) → Prop
def PSet (X : Cx) (t : TSet) : Prop :=
  ∀ (pins : List (Addr × Obj)) (s : Shared) (σ : St) (H : Hp) (o i v : V) (ov iv u : Value) (Q : Hp → Prop), Inv X pins σ H s → RelV o ov → RelV i iv → RelV v u → t o i v H Q →
    wpAny (model X.prog X.w) X.A (setItem ov iv u) (fun _ s' => ∃ H', Inv X pins σ H' s' ∧ Q H') X.xe s
/-- a op= b, by values -/
abbrev TIp := V → V → Hp → VK → Prop
def PIp (X : Cx) (op : Operator) (t : TIp) : Prop :=
  ∀ (pins : List (Addr × Obj)) (s : Shared) (σ : St) (H : Hp) (x y : V) (v u : Value) (Q : VK), Inv X pins σ H s → RelV x v → RelV y u → t x y H Q →
    wpAny (model X.prog X.w) X.A (inplaceOp op v u) (EP X pins σ Q) X.xe s
section
variable {X : Cx} {pos : Pos}
def gName (i : Nat) : TG := fun v σ H Q => Q (σ.set i (some v)) H
theorem pg_name {i : Nat} {x : Str} (hN : X.N.Nodup) (hi : X.N[i]? = some x) (hx : Loc X.env.scope x) (hf : X.fn x = true ∨ X.env.scope.names.lookup x = some .local := by first | exact .inl rfl | exact .inr rfl | assumption) : PG X (.Name x pos) (gName i) := by
  intro pins s σ H v u Q I r h
  exact wpAny_assign_Name (store_ok I hN hi hx r (fun s' I' => ⟨_, H, I', h⟩) hf)
def gNil : TGs := fun vs σ H Q => vs = [] ∧ Q σ H
def gCons (t : TG) (u : TGs) : TGs := fun vs σ H Q => ∃ v r, vs = v :: r ∧ t v σ H fun σ' H' => u r σ' H' Q
theorem pgs_nil : PGs X [] gNil := by
  intro pins s σ H vs us Q I r h
  obtain ⟨e, h⟩ := h
  subst e
  cases r
  exact assignInOrder_nil ⟨σ, H, I, h⟩
theorem pgs_cons {e : Expr} {es : List Expr} {t : TG} {u : TGs} (h1 : PG X e t) (h2 : PGs X es u)
    (hs : (assignEach (e :: es) X.env).map (·.2) = assign e X.env :: (assignEach es X.env).map (·.2) := by rfl) : PGs X (e :: es) (gCons t u) := by
  intro pins s σ H vs us Q I r h
  obtain ⟨v, vr, e1, h⟩ := h
  subst e1
  cases r with
  | cons r rr =>
    rw [hs]
    refine assignInOrder_cons (thn (h1 pins s σ H _ _ _ I r h) fun _ s1 ⟨σ1, H1, I1, q1⟩ => ?_)
    exact h2 pins s1 σ1 H1 _ _ Q I1 rr q1
/-- (a, b, ..) = a tuple of that length -/
def gTup (K : PySem.W.Frag) (n : Nat) (t : TGs) : TG := fun v σ H Q => ∃ a xs, v = .ref a ∧ SqT K H a xs ∧ xs.length = n ∧ t xs σ H Q
theorem pg_tup {es : List Expr} {k : Nat} {t : TGs} {n : Nat} (hc : X.calm = true) (h : PGs X es t)
    (hn : (assignEach es X.env).length = n := by rfl) (hst : (assignEach es X.env).findIdx? (·.1) = none := by rfl) : PG X (.Tuple es k pos) (gTup X.K n t) := by
  intro pins s σ H v u Q I r hw
  obtain ⟨a, xs, e1, hq, hl, hw⟩ := hw
  subst e1
  cases r
  obtain ⟨its, rv, ht, hz⟩ := I.tuple hq
  refine assign_Tuple_tuple (I.ok.hd hc) ht (by simp [hn, ← hl, rv.length]) hst fun h' hx => ?_
  have I1 : Inv X pins σ H { s with heap := h' } := I.kept (t' := s.toks) fun b o e => hx b o (Nat.ne_of_lt (Heap.lt_size e)) e
  exact h pins _ σ H xs _ Q I1 (by simpa using rv) hw
/-- o[i] = .. -/
def gSub (to ti : TE) (t : TSet) : TG := fun v σ H Q => to σ H fun o H1 => ti σ H1 fun i H2 => t o i v H2 fun H3 => Q σ H3
theorem pg_sub {o i : Expr} {to ti : TE} {t : TSet} (ho : PE X o to) (hi : PE X i ti) (hs : PSet X t)
    (ha : ∀ v, assign (.Subscript o i pos) X.env v = (do
      let ov ← holding [v] (eval o X.env)
      let iv ← holding [v, ov] (eval i X.env)
      standAt pos
      holding [v, ov, iv] (setItem ov iv v)
      release [v, ov, iv] []) := by intro _; rfl) : PG X (.Subscript o i pos) (gSub to ti t) := by
  intro pins s σ H v u Q I r h
  rw [ha]
  refine wpAny_bind (wpAny_holding (thn (ho pins s σ H _ I h) fun ov s1 ⟨x, H1, I1, r1, q1⟩ => ?_))
  refine wpAny_bind (wpAny_holding (thn (hi pins s1 σ H1 _ I1 q1) fun iv s2 ⟨y, H2, I2, r2, q2⟩ => ?_))
  refine wpAny_bind (wpAny_standAt (wpAny_bind (wpAny_holding (thn (hs pins s2 σ H2 x y v ov iv u _ I2 r1 r2 r q2) fun _ s3 ⟨H3, I3, q3⟩ => ?_))))
  exact wpAny_release ⟨σ, H3, I3, q3⟩
/-- target = value -/
def tAsg (te : TE) (g : TG) : TS := fun D σ H => te σ H fun x H1 => g x σ H1 D.nx
theorem ps_asg {tg e : Expr} {te : TE} {g : TG} (he : PE X e te) (hg : PG X tg g) (hs : swapsWithSole [tg] e pos.line X.env = pure false := by rfl) (hw : swappedStores [tg] e X.env = pure none := by rfl)
    (h1 : (assignEach [tg] X.env).map (·.2) = [assign tg X.env] := by rfl) : PS X (.Assign [tg] e pos) (tAsg te g) := by
  intro pins s σ H D I h
  refine wpAny_Assign_stores (thn (he pins s σ H _ I h) fun v s1 ⟨x, H1, I1, r1, q1⟩ => ?_) hs hw
  rw [h1]
  exact thn (hg pins s1 σ H1 x v _ I1 r1 q1) fun _ s2 q => q
/-- name = value -/
theorem ps_set {i : Nat} {x : Str} {e : Expr} {te : TE} {pos' : Pos} (hN : X.N.Nodup) (hi : X.N[i]? = some x) (hx : Loc X.env.scope x) (he : PE X e te) (hs : swapsWith e (some (.Name x pos')) pos.line X.env = pure false := by rfl) (hf : X.fn x = true ∨ X.env.scope.names.lookup x = some .local := by first | exact .inl rfl | exact .inr rfl | assumption) :
    PS X (.Assign [.Name x pos'] e pos) (tAsg te (gName i)) := by
  intro pins s σ H D I h
  refine wpAny_Assign_Name (thn (he pins s σ H _ I h) fun v s1 ⟨y, H1, I1, r1, q1⟩ => ?_) hs
  exact store_ok I1 hN hi hx r1 (fun s2 I2 => ⟨_, H1, I2, q1⟩) hf
/-- name op= e -/
def tAug (i : Nat) (te : TE) (ti : TIp) : TS := fun D σ H => ∃ x, σ[i]? = some (some x) ∧ te σ H fun y H1 => ti x y H1 fun z H2 => D.nx (σ.set i (some z)) H2
theorem ps_aug {i : Nat} {x : Str} {e : Expr} {te : TE} {op : Operator} {ti : TIp} {pos' : Pos} (hN : X.N.Nodup) (hi : X.N[i]? = some x) (hx : Loc X.env.scope x) (he : PE X e te) (ho : PIp X op ti) (hf : X.fn x = true ∨ X.env.scope.names.lookup x = some .local := by first | exact .inl rfl | exact .inr rfl | assumption) :
    PS X (.AugAssign (.Name x pos') op e pos) (tAug i te ti) := by
  intro pins s σ H D I h
  obtain ⟨v, e1, h⟩ := h
  obtain ⟨m, hn, hl⟩ := I.loc
  have vis : Vis X.env.scope x := by rcases hx with k | k; exact .inl k; exact .inr (.inl k)
  obtain ⟨u, r, l⟩ := hl i x v hi e1 vis
  refine wpAny_AugAssign_Name ?_
  have go : wpAny (model X.prog X.w) X.A (eval e X.env) (fun w s₂ => wpAny (model X.prog X.w) X.A (inplaceOp op u w) (fun r s₃ => wpAny (model X.prog X.w) X.A (storeName X.env x r) (fun _ => SP X pins D .next) X.xe s₃) X.xe s₂) X.xe s := by
    refine thn (he pins s σ H _ I h) fun w s1 ⟨y, H1, I1, r1, q1⟩ => ?_
    refine thn (ho pins s1 σ H1 v y u w _ I1 r r1 q1) fun z s2 ⟨zv, H2, I2, r2, q2⟩ => ?_
    exact store_ok I2 hN hi hx r2 (fun s3 I3 => ⟨_, H2, I3, q2⟩) hf
  rcases l with ⟨hk, hm⟩ | ⟨hk, c, hc, hcell⟩
  · exact wpAny_loadName_local I.ok.kind hk hn hm go
  · rcases hk with hk | hk
    · exact wpAny_loadName_cell I.ok.kind hk hc hcell go
    · rcases hx with k | k
      · have : X.env.scope.names.lookup x = some .free := hk
        rw [k] at this; cases this
      · have : X.env.scope.names.lookup x = some .free := hk
        rw [k] at this; cases this
/-- ints -/
def ipI (f : Int → Int → Int) : TIp := fun x y H Q => ∃ i j, x = .int i ∧ y = .int j ∧ Q (.int (f i j)) H
theorem ip_add : PIp X .Add (ipI fun i j => i + j) := by
  intro pins s σ H x y v u Q I r1 r2 h
  obtain ⟨i, j, e1, e2, q⟩ := h
  subst e1; subst e2
  obtain ⟨t, rfl⟩ := r1
  obtain ⟨t', rfl⟩ := r2
  exact iadd_int ⟨.int _, H, I.tok _, ⟨_, rfl⟩, q⟩
end

/-! ### while -/
section
variable {X : Cx} {pos : Pos}
/-- the invariant W with its measure -/
def tWhile (c : TT) (tb : TS) : TS := fun D σ H => ∃ W : Nat → St → Hp → Prop, (∃ m, W m σ H) ∧ ∀ m σ H, W m σ H →
  c σ H fun b H1 => if b = true then ∃ N : St → Hp → Prop, (∀ σ' H', N σ' H' → ∃ m', m' < m ∧ W m' σ' H') ∧ tb { D with nx := N, ct := N, bk := D.nx } σ H1 else D.nx σ H1
theorem ps_while {c : Expr} {body : List Stmt} {tc : TT} {tb : TS} (hp : PassesOwn (model X.prog X.w) X.A X.env X.xe) (hc : PT X c tc) (hb : PSs X body tb) : PS X (.While c body [] pos) (tWhile tc tb) := by
  intro pins s σ H D I h
  obtain ⟨W, ⟨m0, w0⟩, turn⟩ := h
  refine wpAny_While (codeAny_whileLoop (fun n s' => ∃ σ' H', Inv X pins σ' H' s' ∧ W n σ' H') ?_ m0 ⟨σ, H, I, w0⟩)
  rintro n s1 ⟨σ1, H1, I1, w1⟩
  refine wpAny_passesOwn hp (thn (hc pins s1 σ1 H1 _ I1 (turn n σ1 H1 w1)) fun b s2 ⟨H2, I2, q2⟩ => ?_)
  cases b with
  | true =>
    obtain ⟨N, hN, q2⟩ := q2
    rw [if_pos rfl]
    refine wpAny_passesOwn hp (thn (hb pins s2 σ1 H2 _ I2 q2) fun f s3 q3 => ?_)
    cases f with
    | next =>
      obtain ⟨σ3, H3, I3, n3⟩ := q3
      obtain ⟨m', hm, w3⟩ := hN σ3 H3 n3
      exact ⟨m', hm, σ3, H3, I3, w3⟩
    | cont =>
      obtain ⟨σ3, H3, I3, n3⟩ := q3
      obtain ⟨m', hm, w3⟩ := hN σ3 H3 n3
      exact ⟨m', hm, σ3, H3, I3, w3⟩
    | brk => exact q3
    | ret v => exact q3
  | false =>
    rw [if_neg Bool.false_ne_true]
    exact wpAny_execs_nil ⟨σ1, H2, I2, q2⟩
end

/-! ### what a loop or a comprehension walks -/
/-- at turn i: it yields x (the heap may grow), or it stops -/
structure It where
  go : Nat → Hp → Prop
  yld : Nat → Hp → V → Hp → Prop
  stop : Nat → Hp → Prop
/-- the iterator's own objects may turn: they are not the frame's, not pinned, younger than the entry (or a comprehension's own) -/
def FpOk (X : Cx) (pins : List (Addr × Obj)) (H : Hp) (b : Addr) : Prop :=
  H b = none ∧ b ≠ X.env.locals ∧ b ∉ X.fs ∧ (b ∈ X.ex ∨ X.s₀.heap.objs.size ≤ b) ∧ (∀ x c, X.env.cells.lookup x = some c → c ≠ b) ∧ ∀ p ∈ X.pn ++ pins, p.1 ≠ b
theorem Inv.fpOk {X : Cx} {pins : List (Addr × Obj)} {σ : St} {H H' : Hp} {s : Shared} {b : Addr} (I : Inv X pins σ H s) (hb : s.heap.objs.size ≤ b) (hn : H' b = none) : FpOk X pins H' b := by
  refine ⟨hn, Nat.ne_of_gt (Nat.lt_of_lt_of_le I.lt hb), I.nofs hb, .inr (Nat.le_trans I.sz hb), fun x c e z => ?_, fun p hp z => ?_⟩
  · obtain ⟨v, q⟩ := I.cell x c e
    exact absurd (Nat.lt_of_lt_of_le q.lt (by rw [z]; exact hb)) (Nat.lt_irrefl _)
  · exact absurd (Nat.lt_of_lt_of_le (Heap.lt_size (I.pin p hp).1) (by rw [z]; exact hb)) (Nat.lt_irrefl _)
structure Turn (P : Program) (w : World) (K : PySem.W.Frag) (tg : Expr) (J : It) (fp : List Addr) (it : Addr) (tn : Nat → Heap → Prop) : Prop where
  mem : it ∈ fp
  obj : ∀ i h, tn i h → ∀ b ∈ fp, ∃ o, h.get? b = some o ∧ ∀ v, o.data ≠ .cell v
  keep : ∀ i h h', tn i h → (∀ b ∈ fp, ∀ o, h.get? b = some o → h'.get? b = some o) → tn i h'
  item : ∀ (X : Cx), X.prog = P → X.w = w → X.K = K → X.calm = true → ∀ (i : Nat) (pins : List (Addr × Obj)) (s : Shared) (σ : St) (H : Hp) (E : Value → Shared → Prop), Inv X pins σ H s → (∀ b ∈ fp, FpOk X pins H b) → tn i s.heap → J.go i H →
    wpAny (model P w) X.A (pyNext (.ref it)) (fun r s1 => ∃ u, r = some u ∧
      wpAny (model P w) X.A (letOwnedTupleGo tg (.ref it) u) (fun _ s2 => ∃ x H', Inv X pins σ H' s2 ∧ RelV x u ∧ J.yld i H x H' ∧ tn (i + 1) s2.heap ∧ ∀ b ∈ fp, H' b = none) E s1) E s
  done : ∀ (X : Cx), X.prog = P → X.w = w → X.K = K → X.calm = true → ∀ (i : Nat) (pins : List (Addr × Obj)) (s : Shared) (σ : St) (H : Hp) (E : Value → Shared → Prop), Inv X pins σ H s → (∀ b ∈ fp, FpOk X pins H b) → tn i s.heap → J.stop i H →
    wpAny (model P w) X.A (pyNext (.ref it)) (fun r s1 => r = none ∧ Inv X pins σ H s1) E s
  self : ∀ (A : Around) (i : Nat) (s : Shared) (Q : Value → Shared → Prop) (E : Value → Shared → Prop), tn i s.heap → Q (.ref it) s → wpAny (model P w) A (pyIter (.ref it)) Q E s
abbrev TI := St → Hp → (It → Hp → Prop) → Prop
/-- an iterator has come -/
def PIE (X : Cx) (pins : List (Addr × Obj)) (σ : St) (tg : Expr) (R : It → Hp → Prop) (itv : Value) (s2 : Shared) : Prop :=
  ∃ (it : Addr) (fp : List Addr) (tn : Nat → Heap → Prop) (J : It) (H' : Hp), itv = .ref it ∧ Inv X pins σ H' s2 ∧ Turn X.prog X.w X.K tg J fp it tn ∧ tn 0 s2.heap ∧ (∀ b ∈ fp, FpOk X pins H' b) ∧ R J H'
def PI (X : Cx) (tg iter : Expr) (wi : TI) : Prop :=
  ∀ (pins : List (Addr × Obj)) (s : Shared) (σ : St) (H : Hp) (R : It → Hp → Prop), Inv X pins σ H s → wi σ H R →
    wpAny (model X.prog X.w) X.A (eval iter X.env) (fun v s1 => wpAny (model X.prog X.w) X.A (pyIter v) (PIE X pins σ tg R) X.xe s1) X.xe s

/-- the step ahead of the store is nothing for an iterator that keeps no tuple -/
theorem go_of {M : Model} {A : Around} {E : Value → Shared → Prop} {s : Shared} {tg : Expr} {it : Addr} {u : Value} {o : Obj} {n : String} {vs : Array Value} {Q : Unit → Shared → Prop} (ho : s.heap.get? it = some o) (hc : o.cls = .type n) (hd : o.data = .fields vs)
    (hn : ["enumerate", "zip", "dict_itemiterator", "dict_reverseitemiterator", "odict_iterator", "itertools.zip_longest", "itertools.pairwise"].contains n = false) (hQ : Q () s) : wpAny M A (letOwnedTupleGo tg (.ref it) u) Q E s := by
  unfold letOwnedTupleGo
  cases tg <;> first
    | exact wpAny_pure hQ
    | (cases u <;> first
        | exact wpAny_pure hQ
        | (refine wpAny_bind (wpAny_load ho ?_)
           rw [hc, hd]
           show wpAny M A (if (["enumerate", "zip", "dict_itemiterator", "dict_reverseitemiterator", "odict_iterator", "itertools.zip_longest", "itertools.pairwise"].contains n && vs[0]? == some (rawInt _)) = true then _ else _) Q E s
           rw [if_neg (by intro h; rw [hn, Bool.false_and] at h; cases h)]
           exact wpAny_pure hQ))

/-- the list at a, as it stands at each turn (a loop may append to it) -/
def Itl (K : PySem.W.Frag) (a : Addr) : It :=
  ⟨fun i H => ∃ xs x, SqL K H a xs ∧ xs[i]? = some x, fun i H x H' => H' = H ∧ ∀ xs, SqL K H a xs → xs[i]? = some x, fun i H => ∃ xs, SqL K H a xs ∧ xs.length ≤ i⟩
/-- lo, lo + 1, .. (n of them) -/
def Itr (lo : Int) (n : Nat) : It := ⟨fun i _ => i < n, fun i H x H' => H' = H ∧ x = .int (lo + i), fun i _ => n ≤ i⟩
theorem turn_list {P : Program} {w : World} {K : PySem.W.Frag} {tg : Expr} (a it : Addr) : Turn P w K tg (Itl K a) [it] it (fun i h => h.IsListIter it a i) where
  mem := by simp
  obj := fun i h st b hb => by
    have e : b = it := by simpa using hb
    subst e
    obtain ⟨o, e, c, d⟩ := st
    exact ⟨o, e, fun v z => by rw [d] at z; cases z⟩
  keep := fun i h h' st k => st.at fun o e => k it (by simp) o e
  item := by
    intro X hP hw hK hc i pins s σ H E I hf st hg
    subst hP hw hK
    obtain ⟨xs, x, hq, hx⟩ := hg
    obtain ⟨its, rv, p, hz⟩ := I.list hq
    obtain ⟨u, hu, ru⟩ := rv.get hx
    obtain ⟨f0, f1, f2, f3, f4, f5⟩ := hf it (by simp)
    refine wpAny_pyNext_list_item st p.isList (x := u) (by simpa using hu) fun h' st' sb => ?_
    have I1 : Inv X pins σ H { s with heap := h' } := I.turned (t' := s.toks) (fun b o hb e => (sb.2 b hb).trans e) f0 f1 f3 f4 f5
    obtain ⟨o, e, c, d⟩ := id st'
    exact ⟨u, rfl, go_of (s := { s with heap := h' }) e c d (by decide) ⟨x, H, I1, ru, ⟨rfl, fun ys hy => by rw [I.list_inj hy hq]; exact hx⟩, st', fun b hb => (hf b hb).1⟩⟩
  done := by
    intro X hP hw hK hc i pins s σ H E I hf st hg
    subst hP hw hK
    obtain ⟨xs, hq, hx⟩ := hg
    obtain ⟨its, rv, p, hz⟩ := I.list hq
    obtain ⟨f0, f1, f2, f3, f4, f5⟩ := hf it (by simp)
    have hl := rv.length
    exact wpAny_pyNext_list_end (I.ok.hd hc) st p.isList (by simp; omega) fun h' eb => ⟨rfl, I.turned (t' := s.toks) (fun b o hb e => eb b o hb e) f0 f1 f3 f4 f5⟩
  self := fun _ _ _ _ _ st h => wpAny_pyIter_listiter st h
theorem turn_range {P : Program} {w : World} {K : PySem.W.Frag} {tg : Expr} (it : Addr) (lo : Int) (n : Nat) : Turn P w K tg (Itr lo n) [it] it (fun i h => IsRangeIter h it (lo + (i : Nat) * 1) ((n : Int) - (i : Nat)) 1) where
  mem := by simp
  obj := fun i h st b hb => by
    have e : b = it := by simpa using hb
    subst e
    exact ⟨_, st, fun v z => by
      have z' : Data.fields _ = Data.cell v := z
      cases z'⟩
  keep := fun i h h' st k => k it (by simp) _ st
  item := by
    intro X hP hw hK hc i pins s σ H E I hf st hg
    subst hP hw hK
    obtain ⟨f0, f1, f2, f3, f4, f5⟩ := hf it (by simp)
    have W := Walks.range (prog := X.prog) (w := X.w) (I.ok.hd hc) it lo 1 n
    refine W.item i s _ _ hg st fun v h' tk hv st' kk => ?_
    obtain ⟨t, rfl⟩ := hv
    have I1 : Inv X pins σ H { s with heap := h', toks := tk } := I.turned (fun b o hb e => kk b o (by simpa using hb) e) f0 f1 f3 f4 f5
    refine ⟨_, rfl, go_of (s := { s with heap := h', toks := tk }) (n := "range_iterator") st' rfl rfl (by decide) ⟨.int (lo + i), H, I1, ⟨t, ?_⟩, ⟨rfl, rfl⟩, st', fun b hb => (hf b hb).1⟩⟩
    rw [Int.mul_one]
  done := by
    intro X hP hw hK hc i pins s σ H E I hf st hg
    subst hP hw hK
    obtain ⟨f0, f1, f2, f3, f4, f5⟩ := hf it (by simp)
    exact wpAny_pyNext_range_end (I.ok.hd hc) st (by have : n ≤ i := hg; omega) fun h' eb => ⟨rfl, I.turned (t' := s.toks) (fun b o hb e => eb b o hb e) f0 f1 f3 f4 f5⟩
  self := fun _ _ _ _ _ st h => wpAny_pyIter_rangeiter st h
end L2

namespace L2
open PySem PySem.Spec PyProof.Rows
section
variable {X : Cx} {tg : Expr}
def iList (K : PySem.W.Frag) (tl : TE) : TI := fun σ H R => tl σ H fun x H1 => ∃ a, x = .ref a ∧ (∃ xs, SqL K H1 a xs) ∧ R (Itl K a) H1
theorem pi_list {l : Expr} {tl : TE} (hl : PE X l tl) : PI X tg l (iList X.K tl) := by
  intro pins s σ H R I h
  refine thn (hl pins s σ H _ I h) fun v s1 ⟨x, H1, I1, r1, q1⟩ => ?_
  obtain ⟨a, e, ⟨xs, hq⟩, q⟩ := q1
  subst e
  cases r1
  obtain ⟨its, rv, p, hz⟩ := I1.list hq
  refine wpAny_pyIter_list p.isList ?_
  refine ⟨s1.heap.objs.size, [s1.heap.objs.size], _, _, H1, rfl, I1.kept (t' := s1.toks) fun b o e => Heap.get?_push_of_some _ e, turn_list a _, ⟨_, Heap.get?_push_size _ rfl, rfl, rfl⟩, fun b hb => ?_, q⟩
  have e : b = s1.heap.objs.size := by simpa using hb
  subst e
  exact I1.fpOk (Nat.le_refl _) (I1.hok.fresh (Nat.le_refl _))
/-- a range object just made, walked -/
theorem range_it {pins : List (Addr × Obj)} {σ : St} {H : Hp} {s : Shared} {R : It → Hp → Prop} {E : Value → Shared → Prop} {lo hi : Int} {t u v : Tok} {tk : Nat} (I : Inv X pins σ H s) (h1 : -(2 ^ 62) ≤ lo) (h2 : lo < 2 ^ 62) (h3 : -(2 ^ 62) ≤ hi) (h4 : hi < 2 ^ 62)
    (q : R (Itr lo (hi - lo).toNat) H) : wpAny (model X.prog X.w) X.A (pyIter (.ref s.heap.objs.size)) (PIE X pins σ tg R) E { s with heap := s.heap.push { cls := .type "range", data := .fields #[.int lo t, .int hi u, .int 1 v] }, toks := tk } := by
  refine wpAny_pyIter_range (IsRange.new ..) (small_one h1 h2 h3 h4) ?_
  have I1 : Inv X pins σ H { s with heap := s.heap.push { cls := .type "range", data := .fields #[.int lo t, .int hi u, .int 1 v] }, toks := tk } := I.kept fun b o e => Heap.get?_push_of_some _ e
  refine ⟨(s.heap.push { cls := .type "range", data := .fields #[.int lo t, .int hi u, .int 1 v] }).objs.size, [(s.heap.push { cls := .type "range", data := .fields #[.int lo t, .int hi u, .int 1 v] }).objs.size], _, _, H, rfl,
    I1.kept (t' := tk) fun b o e => Heap.get?_push_of_some _ e, turn_range _ lo (hi - lo).toNat, ?_, fun b hb => ?_, q⟩
  · have e1 : lo + ((0 : Nat) : Int) * 1 = lo := by simp
    have e2 : (((hi - lo).toNat : Nat) : Int) - ((0 : Nat) : Int) = Builtin.Range.rangeSize lo hi 1 := by rw [rangeSize_one]; split <;> omega
    show IsRangeIter _ _ (lo + ((0 : Nat) : Int) * 1) ((((hi - lo).toNat : Nat) : Int) - ((0 : Nat) : Int)) 1
    rw [e1, e2]
    exact Heap.get?_push_size _ rfl
  · have e : b = (s.heap.push { cls := .type "range", data := .fields #[.int lo t, .int hi u, .int 1 v] }).objs.size := by simpa using hb
    subst e
    exact I1.fpOk (Nat.le_refl _) (I1.hok.fresh (Nat.le_refl _))
def iRng1 (ta : TA) : TI := fun σ H R => ta σ H fun vs H1 => ∃ j : Int, vs = [.int j] ∧ -(2 ^ 62) ≤ j ∧ j < 2 ^ 62 ∧ R (Itr 0 j.toNat) H1
theorem pi_range1 {a : Expr} {ta : TA} {p pos : Pos} (hg : Gl X "range") (hm : X.mg "range" = none) (ha : PA X [a] ta) (hs : starEach [a] X.env = [(false, eval a X.env)] := by rfl) : PI X tg (.Call (.Name "range" p) [a] [] pos) (iRng1 ta) := by
  intro pins s σ H R I h
  refine Call_ (ld_blt I hg hm boot_range (PyProof.Rows.callWith_type1 (thn (ha pos pins s σ H _ I h) fun us s1 ⟨vs, H1, I1, r1, q1⟩ => ?_) hs rfl))
  obtain ⟨j, e, q1, q2, q⟩ := q1
  subst e
  cases r1 with
  | cons r rr =>
    cases rr
    obtain ⟨t, rfl⟩ := r
    exact call_range_1 (range_it I1 (by omega) (by omega) q1 q2 (by simpa using q))
/-! ### for -/
/-- W: the invariant by the turn and a measure; N: what the body is to reach -/
def tFor (wi : TI) (g : TG) (tb : TS) : TS := fun D σ H => wi σ H fun J H1 => ∃ W : Nat → Nat → St → Hp → Prop, (∃ m, W 0 m σ H1) ∧ ∀ i m σ H, W i m σ H →
  (J.stop i H ∧ D.nx σ H) ∨ (J.go i H ∧ ∃ N : St → Hp → Prop, (∀ σ' H', N σ' H' → ∃ m', m' < m ∧ W (i + 1) m' σ' H') ∧ ∀ x H', J.yld i H x H' → g x σ H' fun σ2 H2 => tb { D with nx := N, ct := N, bk := D.nx } σ2 H2)
/-- the records at fp as they stand -/
def pinsAt (fp : List Addr) (h : Heap) : List (Addr × Obj) := fp.filterMap fun b => (h.get? b).map fun o => (b, o)
theorem mem_pinsAt {fp : List Addr} {h : Heap} {b : Addr} {o : Obj} (hb : b ∈ fp) (e : h.get? b = some o) : (b, o) ∈ pinsAt fp h := List.mem_filterMap.mpr ⟨b, hb, by rw [e]; rfl⟩
theorem of_pinsAt {fp : List Addr} {h : Heap} {p : Addr × Obj} (hp : p ∈ pinsAt fp h) : p.1 ∈ fp ∧ h.get? p.1 = some p.2 := by
  obtain ⟨b, hb, e⟩ := List.mem_filterMap.mp hp
  cases q : h.get? b with
  | none => rw [q] at e; cases e
  | some o =>
    rw [q] at e
    have e' : (b, o) = p := Option.some.inj e
    subst e'
    exact ⟨hb, q⟩
theorem Inv.pinned {pins : List (Addr × Obj)} {σ : St} {H : Hp} {s : Shared} {fp : List Addr} (I : Inv X pins σ H s) (hf : ∀ b ∈ fp, FpOk X pins H b) (ho : ∀ b ∈ fp, ∃ o, s.heap.get? b = some o ∧ ∀ v, o.data ≠ .cell v) : Inv X (pins ++ pinsAt fp s.heap) σ H s :=
  I.pins_of fun p hp => (List.mem_append.mp hp).elim (fun z => I.pin p (List.mem_append_right _ z)) fun z => by
    obtain ⟨hb, e⟩ := of_pinsAt z
    obtain ⟨f0, f1, f2, _⟩ := hf p.1 hb
    obtain ⟨o, e', d⟩ := ho p.1 hb
    rw [e] at e'; cases e'
    exact ⟨e, f0, f1, f2, d⟩
theorem Inv.unpinned {pins pl : List (Addr × Obj)} {σ : St} {H : Hp} {s : Shared} (I : Inv X (pins ++ pl) σ H s) : Inv X pins σ H s := I.pins_of fun p hp => I.pin p (List.mem_append_right _ (List.mem_append_left _ hp))
theorem ps_for {iter : Expr} {body : List Stmt} {wi : TI} {g : TG} {tb : TS} {pos : Pos} (hp : PassesOwn (model X.prog X.w) X.A X.env X.xe) (hc : X.calm = true) (hi : PI X tg iter wi) (hg : PG X tg g) (hb : PSs X body tb)
    (hs : ∀ x, foldedSetIterable iter X.env x = pure x := by intro _; rfl) : PS X (.For tg iter body [] pos) (tFor wi g tb) := by
  intro pins s σ H D I h
  refine wpAny_For (thn (hi pins s σ H _ I h) fun v s1 h1 => thn h1 fun itv s2 h2 => ?_) hs
  obtain ⟨it, fp, tn, J, H2, e, I2, T, st2, f2, W, ⟨m0, w0⟩, turn⟩ := h2
  subst e
  -- what stays true of the iterator's objects through the loop
  have stat : ∀ {H' : Hp}, (∀ b ∈ fp, H' b = none) → ∀ b ∈ fp, FpOk X pins H' b := fun hn b hb => ⟨hn b hb, (f2 b hb).2⟩
  refine codeAny_forLoop_any (fun n s' => ∃ i σ' H', Inv X pins σ' H' s' ∧ tn i s'.heap ∧ (∀ b ∈ fp, H' b = none) ∧ W i n σ' H') ?_ m0 ⟨0, σ, H2, I2, st2, fun b hb => (f2 b hb).1, w0⟩
  rintro n s3 ⟨i, σ3, H3, I3, st3, fr3, w3⟩
  rcases turn i n σ3 H3 w3 with ⟨stop, qn⟩ | ⟨go, N, hN, step⟩
  · refine wpAny_passesOwn hp (thn (T.done X rfl rfl rfl hc i pins s3 σ3 H3 X.xe I3 (stat fr3) st3 stop) fun r s4 ⟨hr, I4⟩ => ?_)
    subst hr
    exact wpAny_execs_nil ⟨σ3, H3, I4, qn⟩
  · refine wpAny_passesOwn hp (thn (T.item X rfl rfl rfl hc i pins s3 σ3 H3 X.xe I3 (stat fr3) st3 go) fun r s4 ⟨u, hr, h4⟩ => ?_)
    subst hr
    refine wpAny_passesOwn hp (thn h4 fun _ s5 ⟨x, H5, I5, r5, y5, st5, fr5⟩ => ?_)
    have I5' := I5.pinned (stat fr5) (T.obj _ _ st5)
    refine wpAny_passesOwn hp (thn (hg _ s5 σ3 H5 x u _ I5' r5 (step x H5 y5)) fun _ s6 ⟨σ6, H6, I6, q6⟩ => ?_)
    refine wpAny_passesOwn hp (thn (hb _ s6 σ6 H6 _ I6 q6) fun f s7 q7 => ?_)
    have again : ∀ {σ7 : St} {H7 : Hp}, Inv X (pins ++ pinsAt fp s5.heap) σ7 H7 s7 → N σ7 H7 → ∃ m, m < n ∧ ∃ i σ' H', Inv X pins σ' H' s7 ∧ tn i s7.heap ∧ (∀ b ∈ fp, H' b = none) ∧ W i m σ' H' := fun {σ7 H7} I7 n7 => by
      obtain ⟨m', hm, w7⟩ := hN σ7 H7 n7
      refine ⟨m', hm, i + 1, σ7, H7, I7.unpinned, T.keep _ _ _ st5 fun b hb o e => (I7.pin (b, o) (List.mem_append_right _ (List.mem_append_right _ (mem_pinsAt hb e)))).1, fun b hb => ?_, w7⟩
      obtain ⟨o, e, d⟩ := T.obj _ _ st5 b hb
      exact (I7.pin (b, o) (List.mem_append_right _ (List.mem_append_right _ (mem_pinsAt hb e)))).2.1
    cases f with
    | next => obtain ⟨σ7, H7, I7, n7⟩ := q7; exact again I7 n7
    | cont => obtain ⟨σ7, H7, I7, n7⟩ := q7; exact again I7 n7
    | brk => obtain ⟨σ7, H7, I7, q7⟩ := q7; exact ⟨σ7, H7, I7.unpinned, q7⟩
    | ret v => obtain ⟨x7, σ7, H7, I7, r7, q7⟩ := q7; exact ⟨x7, σ7, H7, I7.unpinned, r7, q7⟩
end

/-! ### the forms one uses -/
/-- over a list that the body leaves as it is -/
theorem for_list {K : PySem.W.Frag} {a : Addr} {xs : List V} {g : TG} {tb : TS} {D : Ends} {σ : St} {H : Hp} (Pv : Nat → St → Hp → Prop) (h0 : Pv 0 σ H) (hl : ∀ i σ H, i ≤ xs.length → Pv i σ H → SqL K H a xs)
    (hs : ∀ i x σ H, xs[i]? = some x → Pv i σ H → g x σ H fun σ2 H2 => tb { D with nx := Pv (i + 1), ct := Pv (i + 1), bk := D.nx } σ2 H2) (hd : ∀ σ H, Pv xs.length σ H → D.nx σ H) :
    ∃ W : Nat → Nat → St → Hp → Prop, (∃ m, W 0 m σ H) ∧ ∀ i m σ H, W i m σ H →
      ((Itl K a).stop i H ∧ D.nx σ H) ∨ ((Itl K a).go i H ∧ ∃ N : St → Hp → Prop, (∀ σ' H', N σ' H' → ∃ m', m' < m ∧ W (i + 1) m' σ' H') ∧ ∀ x H', (Itl K a).yld i H x H' → g x σ H' fun σ2 H2 => tb { D with nx := N, ct := N, bk := D.nx } σ2 H2) := by
  refine ⟨fun i m σ H => m = xs.length - i ∧ i ≤ xs.length ∧ Pv i σ H, ⟨xs.length, by simp, Nat.zero_le _, h0⟩, ?_⟩
  rintro i m σ H ⟨rfl, hi, p⟩
  have q := hl i σ H hi p
  by_cases hlt : i < xs.length
  · refine .inr ⟨⟨xs, xs[i], q, by simp [hlt]⟩, Pv (i + 1), fun σ' H' p' => ⟨xs.length - (i + 1), by omega, rfl, hlt, p'⟩, fun x H' y => ?_⟩
    obtain ⟨e, y⟩ := y
    subst e
    exact hs i x σ _ (y xs q) p
  · have e : i = xs.length := by omega
    subst e
    exact .inl ⟨⟨xs, q, Nat.le_refl _⟩, hd σ H p⟩
theorem for_range {lo : Int} {n : Nat} {g : TG} {tb : TS} {D : Ends} {σ : St} {H : Hp} (Pv : Nat → St → Hp → Prop) (h0 : Pv 0 σ H)
    (hs : ∀ i σ H, i < n → Pv i σ H → g (.int (lo + i)) σ H fun σ2 H2 => tb { D with nx := Pv (i + 1), ct := Pv (i + 1), bk := D.nx } σ2 H2) (hd : ∀ σ H, Pv n σ H → D.nx σ H) :
    ∃ W : Nat → Nat → St → Hp → Prop, (∃ m, W 0 m σ H) ∧ ∀ i m σ H, W i m σ H →
      ((Itr lo n).stop i H ∧ D.nx σ H) ∨ ((Itr lo n).go i H ∧ ∃ N : St → Hp → Prop, (∀ σ' H', N σ' H' → ∃ m', m' < m ∧ W (i + 1) m' σ' H') ∧ ∀ x H', (Itr lo n).yld i H x H' → g x σ H' fun σ2 H2 => tb { D with nx := N, ct := N, bk := D.nx } σ2 H2) := by
  refine ⟨fun i m σ H => m = n - i ∧ i ≤ n ∧ Pv i σ H, ⟨n, by simp, Nat.zero_le _, h0⟩, ?_⟩
  rintro i m σ H ⟨rfl, hi, p⟩
  by_cases hlt : i < n
  · refine .inr ⟨hlt, Pv (i + 1), fun σ' H' p' => ⟨n - (i + 1), by omega, rfl, hlt, p'⟩, fun x H' y => ?_⟩
    obtain ⟨e, y⟩ := y
    subst e y
    exact hs i σ _ hlt p
  · have e : i = n := by omega
    subst e
    exact .inl ⟨Nat.le_refl _, hd σ H p⟩
end L2

namespace L2
open PySem PySem.Spec PyProof.Rows

abbrev R2 := V → V → Hp → VK → Prop
/-- a two-place operation on values: f is binaryOp op, inplaceOp op or compareOp op -/
def OpR (X : Cx) (f : Value → Value → Sem Value) (r : R2) : Prop :=
  ∀ (pins : List (Addr × Obj)) (s : Shared) (σ : St) (H : Hp) (x y : V) (v u : Value) (Q : VK), Inv X pins σ H s → RelV x v → RelV y u → r x y H Q →
    wpAny (model X.prog X.w) X.A (f v u) (EP X pins σ Q) X.xe s
/-- a one-place operation -/
def UnR (X : Cx) (f : Value → Sem Value) (r : V → Hp → VK → Prop) : Prop :=
  ∀ (pins : List (Addr × Obj)) (s : Shared) (σ : St) (H : Hp) (x : V) (v : Value) (Q : VK), Inv X pins σ H s → RelV x v → r x H Q →
    wpAny (model X.prog X.w) X.A (f v) (EP X pins σ Q) X.xe s
/-- a call of a value that is known (a builtin, a type) with values -/
def CallR (X : Cx) (f : Value) (r : List V → Hp → VK → Prop) : Prop :=
  ∀ (pins : List (Addr × Obj)) (s : Shared) (σ : St) (H : Hp) (xs : List V) (us : List Value) (Q : VK), Inv X pins σ H s → Vals xs us → r xs H Q →
    wpAny (model X.prog X.w) X.A (call f us) (EP X pins σ Q) X.xe s
def tOp (r : R2) (ta tb : TE) : TE := fun σ H Q => ta σ H fun x H1 => tb σ H1 fun y H2 => r x y H2 Q
def tUn (r : V → Hp → VK → Prop) (ta : TE) : TE := fun σ H Q => ta σ H fun x H1 => r x H1 Q
/-- ints in, under C, and a value out -/
def rI (C : Int → Int → Prop) (g : Int → Int → V) : R2 := fun x y H Q => ∃ i j, x = .int i ∧ y = .int j ∧ C i j ∧ Q (g i j) H
def rI0 (g : Int → Int → V) : R2 := fun x y H Q => ∃ i j, x = .int i ∧ y = .int j ∧ Q (g i j) H
def rU (g : Int → V) : V → Hp → VK → Prop := fun x H Q => ∃ i, x = .int i ∧ Q (g i) H

section
variable {X : Cx} {a b c : Expr} {ta tb tc : TE} {pos : Pos}

theorem binT (ha : PE X a ta) (hb : PE X b tb) {pins : List (Addr × Obj)} {s : Shared} {σ : St} {H : Hp} {R : V → V → Hp → Prop} (I : Inv X pins σ H s)
    (h : ta σ H fun x H1 => tb σ H1 fun y H2 => R x y H2) {Q : Value → Shared → Prop} {f : Value → Value → Sem Value}
    (hf : ∀ v u s2 x y H2, Inv X pins σ H2 s2 → RelV x v → RelV y u → R x y H2 → wpAny (model X.prog X.w) X.A (f v u) Q X.xe s2) :
    wpAny (model X.prog X.w) X.A (eval a X.env) (fun v s₁ => wpAny (model X.prog X.w) X.A (eval b X.env) (fun u s₂ => wpAny (model X.prog X.w) X.A (f v u) Q X.xe s₂) X.xe s₁) X.xe s := by
  refine thn (ha pins s σ H _ I h) fun v s1 ⟨x, H1, I1, r1, q1⟩ => ?_
  refine thn (hb pins s1 σ H1 _ I1 q1) fun u s2 ⟨y, H2, I2, r2, q2⟩ => ?_
  exact hf v u s2 x y H2 I2 r1 r2 q2

theorem pe_op {op : Operator} {r : R2} (ho : OpR X (binaryOp op) r) (ha : PE X a ta) (hb : PE X b tb) : PE X (.BinOp a op b pos) (tOp r ta tb) := by
  intro pins s σ H Q I h
  exact wpAny_BinOp (binT ha hb I h fun v u s2 x y H2 I2 rx ry q => ho pins s2 σ H2 x y v u Q I2 rx ry q)
theorem pe_un {op : UnaryOp} {r : V → Hp → VK → Prop} (ho : UnR X (unaryOp op) r) (ha : PE X a ta) : PE X (.UnaryOp op a pos) (tUn r ta) := by
  intro pins s σ H Q I h
  exact UnaryOp_ (thn (ha pins s σ H _ I h) fun v s1 ⟨x, H1, I1, r1, q1⟩ => ho pins s1 σ H1 x v Q I1 r1 q1)
/-! ### ints -/
theorem opI {f : Value → Value → Sem Value} {C : Int → Int → Prop} {g : Int → Int → Int}
    (rule : ∀ (i j : Int) (t u : Tok) (s : Shared) (Q : Value → Shared → Prop) (E : Value → Shared → Prop), C i j → Q (.int (g i j) s.toks) { s with toks := s.toks + 1 } → wpAny (model X.prog X.w) X.A (f (.int i t) (.int j u)) Q E s) :
    OpR X f (rI C fun i j => .int (g i j)) := by
  intro pins s σ H x y v u Q I rx ry h
  obtain ⟨i, j, rfl, rfl, hc, q⟩ := h
  obtain ⟨t, rfl⟩ := rx
  obtain ⟨t', rfl⟩ := ry
  exact rule i j t t' s _ _ hc ⟨.int (g i j), H, I.tok _, ⟨_, rfl⟩, q⟩
theorem opI0 {f : Value → Value → Sem Value} {g : Int → Int → Int}
    (rule : ∀ (i j : Int) (t u : Tok) (s : Shared) (Q : Value → Shared → Prop) (E : Value → Shared → Prop), Q (.int (g i j) s.toks) { s with toks := s.toks + 1 } → wpAny (model X.prog X.w) X.A (f (.int i t) (.int j u)) Q E s) :
    OpR X f (rI0 fun i j => .int (g i j)) := by
  intro pins s σ H x y v u Q I rx ry h
  obtain ⟨i, j, rfl, rfl, q⟩ := h
  obtain ⟨t, rfl⟩ := rx
  obtain ⟨t', rfl⟩ := ry
  exact rule i j t t' s _ _ ⟨.int (g i j), H, I.tok _, ⟨_, rfl⟩, q⟩
theorem opB0 {f : Value → Value → Sem Value} {g : Int → Int → Bool}
    (rule : ∀ (i j : Int) (t u : Tok) (s : Shared) (Q : Value → Shared → Prop) (E : Value → Shared → Prop), Q (.bool (g i j)) s → wpAny (model X.prog X.w) X.A (f (.int i t) (.int j u)) Q E s) :
    OpR X f (rI0 fun i j => .bl (g i j)) := by
  intro pins s σ H x y v u Q I rx ry h
  obtain ⟨i, j, rfl, rfl, q⟩ := h
  obtain ⟨t, rfl⟩ := rx
  obtain ⟨t', rfl⟩ := ry
  exact rule i j t t' s _ _ ⟨.bl (g i j), H, I, rfl, q⟩

def CPow (i j : Int) : Prop := 0 ≤ j ∧ j ≤ 1000000 ∧ i.natAbs < 2 ^ 64
def CMul (i j : Int) : Prop := (-(2 ^ 64) < i ∧ i < 2 ^ 64) ∨ (-(2 ^ 64) < j ∧ j < 2 ^ 64)
theorem CMul.ok {i j : Int} (h : CMul i j) : IntMulOk i j := by
  rcases h with ⟨h1, h2⟩ | ⟨h1, h2⟩
  · exact .of_left (intBits_le_64 h1 h2)
  · exact .of_right (intBits_le_64 h1 h2)
theorem op_add : OpR X (binaryOp .Add) (rI0 fun i j => .int (i + j)) := opI0 fun _ _ _ _ _ _ _ q => add_int q
theorem op_sub : OpR X (binaryOp .Sub) (rI0 fun i j => .int (i - j)) := opI0 fun _ _ _ _ _ _ _ q => sub_int q
theorem op_mul : OpR X (binaryOp .Mult) (rI CMul fun i j => .int (i * j)) := opI fun _ _ _ _ _ _ _ hc q => mul_int q hc.ok
/-- % by a positive divisor of any size -/
theorem op_mod : OpR X (binaryOp .Mod) (rI (fun _ j => 0 < j) fun i j => .int (i % j)) := opI fun i j _ _ _ _ _ hc q => by
  have h1 : (0 : Int) < j := hc
  exact mod_int' (by omega) (by rw [Int.fmod_eq_emod_of_nonneg i (by omega)]; exact q)
theorem op_pow : OpR X (binaryOp .Pow) (rI CPow fun i j => .int (i ^ j.toNat)) := opI fun _ _ _ _ _ _ _ hc q => pow_int_small hc.1 hc.2.1 hc.2.2 q
theorem unI {f : Value → Sem Value} {g : Int → Int}
    (rule : ∀ (i : Int) (t : Tok) (s : Shared) (Q : Value → Shared → Prop) (E : Value → Shared → Prop), Q (.int (g i) s.toks) { s with toks := s.toks + 1 } → wpAny (model X.prog X.w) X.A (f (.int i t)) Q E s) :
    UnR X f (rU fun i => .int (g i)) := by
  intro pins s σ H x v Q I rx h
  obtain ⟨i, rfl, q⟩ := h
  obtain ⟨t, rfl⟩ := rx
  exact rule i t s _ _ ⟨.int (g i), H, I.tok _, ⟨_, rfl⟩, q⟩
theorem un_neg : UnR X (unaryOp .USub) (rU fun i => .int (-i)) := unI fun _ _ _ _ _ q => neg_int q
/-! ### bools among ints: n += (a < b) -/
end

/-! ### comparisons -/
/-- the scalars that == tells apart as data does -/
def scal : V → V → Bool
  | .non, .non => true | .non, .int _ => true | .int _, .non => true | .non, .bl _ => true | .bl _, .non => true | .non, .str _ => true | .str _, .non => true
  | .int _, .int _ => true | .bl _, .bl _ => true | .str _, .str _ => true | .byt _, .byt _ => true
  | .int _, .str _ => true | .str _, .int _ => true | .bl _, .str _ => true | .str _, .bl _ => true
  | _, _ => false
def rEq : R2 := fun x y H Q => scal x y = true ∧ Q (.bl (decide (x = y))) H
def rNe : R2 := fun x y H Q => scal x y = true ∧ Q (.bl (!decide (x = y))) H

theorem dec_int {i j : Int} : decide (V.int i = V.int j) = (i == j) := by
  rw [Bool.eq_iff_iff]
  simp
theorem dec_bl {i j : Bool} : decide (V.bl i = V.bl j) = (i == j) := by
  rw [Bool.eq_iff_iff]
  simp
theorem dec_str {i j : Str} : decide (V.str i = V.str j) = (i == j) := by
  rw [Bool.eq_iff_iff]
  simp
theorem dec_byt {i j : Array UInt8} : decide (V.byt i = V.byt j) = (i.toList == j.toList) := by
  rw [Bool.eq_iff_iff]
  cases i
  cases j
  simp

section
variable {X : Cx} {a b c : Expr} {ta tb tc : TE} {pos : Pos}
theorem fin_bl {pins : List (Addr × Obj)} {σ : St} {H : Hp} {s : Shared} {Q : VK} {k k' : Bool} (I : Inv X pins σ H s) (q : Q (.bl k) H) (e : k = k') : EP X pins σ Q (.bool k') s := by
  subst e
  exact ⟨.bl k, H, I, rfl, q⟩
theorem op_eq : OpR X (compareOp .Eq) rEq := by
  intro pins s σ H x y v u Q I rx ry h
  obtain ⟨hs, q⟩ := h
  cases x with
  | non =>
    cases rx
    cases y with
    | non => cases ry; exact PySem.EqNone.eq_none_none (fin_bl I q (by simp))
    | bl j => cases ry; exact PySem.EqNone.eq_none_bool (fin_bl I q (by simp))
    | int j => obtain ⟨t', rfl⟩ := ry; exact PySem.EqNone.eq_none_int (fin_bl I q (by simp))
    | str j => obtain ⟨t', rfl⟩ := ry; exact PySem.EqNone.eq_none_str (fin_bl I q (by simp))
    | _ => exact absurd (show false = true from hs) Bool.false_ne_true
  | bl i =>
    cases rx
    cases y with
    | non => cases ry; exact PySem.EqNone.eq_bool_none (fin_bl I q (by simp))
    | bl j => cases ry; exact eq_bool (fin_bl I q dec_bl)
    | str j => obtain ⟨t', rfl⟩ := ry; exact PySem.EqMixed.eq_bool_str (fin_bl I q (by simp))
    | _ => exact absurd (show false = true from hs) Bool.false_ne_true
  | int i =>
    obtain ⟨t, rfl⟩ := rx
    cases y with
    | non => cases ry; exact PySem.EqNone.eq_int_none (fin_bl I q (by simp))
    | int j => obtain ⟨t', rfl⟩ := ry; exact eq_int (fin_bl I q dec_int)
    | str j => obtain ⟨t', rfl⟩ := ry; exact PySem.EqMixed.eq_int_str (fin_bl I q (by simp))
    | _ => exact absurd (show false = true from hs) Bool.false_ne_true
  | str i =>
    obtain ⟨t, rfl⟩ := rx
    cases y with
    | non => cases ry; exact PySem.EqNone.eq_str_none (fin_bl I q (by simp))
    | bl j => cases ry; exact PySem.EqMixed.eq_str_bool (fin_bl I q (by simp))
    | int j => obtain ⟨t', rfl⟩ := ry; exact PySem.EqMixed.eq_str_int (fin_bl I q (by simp))
    | str j => obtain ⟨t', rfl⟩ := ry; exact eq_str (fin_bl I q dec_str)
    | _ => exact absurd (show false = true from hs) Bool.false_ne_true
  | byt i =>
    obtain ⟨t, rfl⟩ := rx
    cases y with
    | byt j => obtain ⟨t', rfl⟩ := ry; exact PySem.W.eq_bytes (fin_bl I q dec_byt)
    | _ => exact absurd (show false = true from hs) Bool.false_ne_true
  | _ => cases y <;> exact absurd (show false = true from hs) Bool.false_ne_true
theorem op_ne : OpR X (compareOp .NotEq) rNe := by
  intro pins s σ H x y v u Q I rx ry h
  obtain ⟨hs, q⟩ := h
  cases x with
  | non =>
    cases rx
    cases y with
    | non => cases ry; exact PySem.EqNone.ne_none_none (fin_bl I q (by simp))
    | bl j => cases ry; exact PySem.EqNone.ne_none_bool (fin_bl I q (by simp))
    | int j => obtain ⟨t', rfl⟩ := ry; exact PySem.EqNone.ne_none_int (fin_bl I q (by simp))
    | str j => obtain ⟨t', rfl⟩ := ry; exact PySem.EqNone.ne_none_str (fin_bl I q (by simp))
    | _ => exact absurd (show false = true from hs) Bool.false_ne_true
  | bl i =>
    cases rx
    cases y with
    | non => cases ry; exact PySem.EqNone.ne_bool_none (fin_bl I q (by simp))
    | bl j => cases ry; exact ne_bool (fin_bl I q (congrArg not dec_bl))
    | str j => obtain ⟨t', rfl⟩ := ry; exact PySem.EqMixed.ne_bool_str (fin_bl I q (by simp))
    | _ => exact absurd (show false = true from hs) Bool.false_ne_true
  | int i =>
    obtain ⟨t, rfl⟩ := rx
    cases y with
    | non => cases ry; exact PySem.EqNone.ne_int_none (fin_bl I q (by simp))
    | int j => obtain ⟨t', rfl⟩ := ry; exact ne_int (fin_bl I q (congrArg not dec_int))
    | str j => obtain ⟨t', rfl⟩ := ry; exact PySem.EqMixed.ne_int_str (fin_bl I q (by simp))
    | _ => exact absurd (show false = true from hs) Bool.false_ne_true
  | str i =>
    obtain ⟨t, rfl⟩ := rx
    cases y with
    | non => cases ry; exact PySem.EqNone.ne_str_none (fin_bl I q (by simp))
    | bl j => cases ry; exact PySem.EqMixed.ne_str_bool (fin_bl I q (by simp))
    | int j => obtain ⟨t', rfl⟩ := ry; exact PySem.EqMixed.ne_str_int (fin_bl I q (by simp))
    | str j => obtain ⟨t', rfl⟩ := ry; exact ne_str (fin_bl I q (congrArg not dec_str))
    | _ => exact absurd (show false = true from hs) Bool.false_ne_true
  | byt i =>
    obtain ⟨t, rfl⟩ := rx
    cases y with
    | byt j => obtain ⟨t', rfl⟩ := ry; exact PySem.W.ne_bytes (fin_bl I q (congrArg not dec_byt))
    | _ => exact absurd (show false = true from hs) Bool.false_ne_true
  | _ => cases y <;> exact absurd (show false = true from hs) Bool.false_ne_true

theorem op_lt : OpR X (compareOp .Lt) (rI0 fun i j => .bl (decide (i < j))) := opB0 fun _ _ _ _ _ _ _ q => lt_int q
theorem op_le : OpR X (compareOp .LtE) (rI0 fun i j => .bl (decide (i ≤ j))) := opB0 fun _ _ _ _ _ _ _ q => le_int q
theorem op_gt : OpR X (compareOp .Gt) (rI0 fun i j => .bl (decide (j < i))) := opB0 fun _ _ _ _ _ _ _ q => gt_int q
theorem op_ge : OpR X (compareOp .GtE) (rI0 fun i j => .bl (decide (j ≤ i))) := opB0 fun _ _ _ _ _ _ _ q => ge_int q
/-- is None, is not None: the right side a value none -/
theorem op_isN : OpR X (compareOp .Is) (fun x y H Q => y = .non ∧ Q (.bl (decide (x = .non))) H) := by
  intro pins s σ H x y v u Q I rx ry h
  obtain ⟨rfl, q⟩ := h
  cases ry
  refine is_none_gen (fin_bl I q ?_)
  cases x <;> first
    | (cases rx; rfl)
    | (obtain ⟨t, rfl⟩ := rx; rfl)
theorem op_notN : OpR X (compareOp .IsNot) (fun x y H Q => y = .non ∧ Q (.bl (!decide (x = .non))) H) := by
  intro pins s σ H x y v u Q I rx ry h
  obtain ⟨rfl, q⟩ := h
  cases ry
  refine isnot_none_gen (fin_bl I q ?_)
  cases x <;> first
    | (cases rx; rfl)
    | (obtain ⟨t, rfl⟩ := rx; rfl)

/-- is, is not of two objects that are tracked lists or instances -/
def isObj : HO → Bool
  | .lst _ => true
  | .ins _ _ _ => true
  | _ => false
theorem nomark (b : Expr) {op : CmpOp} (h : op ≠ .In := by decide) (h2 : op ≠ .NotIn := by decide) : behindInMarks op b = false := by
  have e1 : (op == CmpOp.In) = false := by cases op <;> first | rfl | exact absurd rfl h
  have e2 : (op == CmpOp.NotIn) = false := by cases op <;> first | rfl | exact absurd rfl h2
  cases b <;> simp [behindInMarks, e1, e2]
/-- a comparison as a value; hm: nomark b, or (for in, not in) by with_unfolding_all rfl -/
theorem pe_cmpR {op : CmpOp} {r : R2} (ho : OpR X (compareOp op) r) (ha : PE X a ta) (hb : PE X b tb) (hm : behindInMarks op b = false) : PE X (.Compare a [op] [b] pos) (tOp r ta tb) := by
  intro pins s σ H Q I h
  exact wpAny_Compare1 (binT ha hb I h fun v u s2 x y H2 I2 rx ry q => ho pins s2 σ H2 x y v u Q I2 rx ry q) hm
/-- a reading of a value as a test -/
def tTest (t : TE) : TT := fun σ H Q => t σ H fun x H' => ∃ k, x = .bl k ∧ Q k H'
theorem pt_cmpR {op : CmpOp} {r : R2} (ho : OpR X (compareOp op) r) (ha : PE X a ta) (hb : PE X b tb) (hm : behindInMarks op b = false) : PT X (.Compare a [op] [b] pos) (tTest (tOp r ta tb)) := by
  intro pins s σ H Q I h
  refine wpAny_isTrue_Compare1 (thn (ha pins s σ H _ I h) fun v s1 ⟨x, H1, I1, r1, q1⟩ => thn (hb pins s1 σ H1 _ I1 q1) fun u s2 ⟨y, H2, I2, r2, q2⟩ =>
    thn (ho pins s2 σ H2 x y v u _ I2 r1 r2 q2) fun c s3 ⟨z, H3, I3, r3, k, e, q3⟩ => ?_) hm
  subst e
  cases r3
  exact wpAny_truthy_bool ⟨H3, I3, q3⟩
/-- a op1 b op2 c -/
def tChain (r r' : R2) (ta tb tc : TE) : TE := fun σ H Q => ta σ H fun x H1 => tb σ H1 fun y H2 => r x y H2 fun z H3 => ∃ k, z = .bl k ∧
  (if k = true then tc σ H3 fun w' H4 => r' y w' H4 Q else Q (.bl false) H3)
theorem pe_chain {op op' : CmpOp} {r r' : R2} (ho : OpR X (compareOp op) r) (ho' : OpR X (compareOp op') r') (ha : PE X a ta) (hb : PE X b tb) (hc : PE X c tc)
    (hm : lastMarks [op, op'] [b, c] = false := by with_unfolding_all rfl) : PE X (.Compare a [op, op'] [b, c] pos) (tChain r r' ta tb tc) := by
  intro pins s σ H Q I h
  refine Compare_chain (thn (ha pins s σ H _ I h) fun v s1 ⟨x, H1, I1, r1, q1⟩ => chain_link (thn (hb pins s1 σ H1 _ I1 q1) fun u s2 ⟨y, H2, I2, r2, q2⟩ =>
    thn (ho pins s2 σ H2 x y v u _ I2 r1 r2 q2) fun d s3 ⟨z, H3, I3, r3, k, e, q3⟩ => ?_)) hm
  subst e
  cases r3
  refine wpAny_truthy_bool ?_
  cases k with
  | false => exact ite_ff ⟨.bl false, H3, I3, rfl, q3⟩
  | true => exact ite_tt (chain_last (thn (hc pins s3 σ H3 _ I3 q3) fun w' s4 ⟨z', H4, I4, r4, q4⟩ => ho' pins s4 σ H4 y z' u w' Q I4 r2 r4 q4))
theorem pt_chain {op op' : CmpOp} {r r' : R2} (ho : OpR X (compareOp op) r) (ho' : OpR X (compareOp op') r') (ha : PE X a ta) (hb : PE X b tb) (hc : PE X c tc)
    (hm : lastMarks [op, op'] [b, c] = false := by with_unfolding_all rfl) : PT X (.Compare a [op, op'] [b, c] pos) (tTest (tChain r r' ta tb tc)) := by
  intro pins s σ H Q I h
  refine isTrue_chain (thn (ha pins s σ H _ I h) fun v s1 ⟨x, H1, I1, r1, q1⟩ => test_link (thn (hb pins s1 σ H1 _ I1 q1) fun u s2 ⟨y, H2, I2, r2, q2⟩ =>
    thn (ho pins s2 σ H2 x y v u _ I2 r1 r2 q2) fun d s3 ⟨z, H3, I3, r3, k, e, q3⟩ => ?_)) hm
  subst e
  cases r3
  refine wpAny_truthy_bool ?_
  cases k with
  | false =>
    obtain ⟨k', e', q'⟩ := q3
    cases e'
    exact ite_ff ⟨H3, I3, q'⟩
  | true =>
    refine ite_tt (test_last (thn (hc pins s3 σ H3 _ I3 q3) fun w' s4 ⟨z', H4, I4, r4, q4⟩ => thn (ho' pins s4 σ H4 y z' u w' _ I4 r2 r4 q4) fun d' s5 ⟨z2, H5, I5, r5, k2, e2, q5⟩ => ?_))
    subst e2
    cases r5
    exact wpAny_truthy_bool ⟨H5, I5, q5⟩

/-! ### truth -/
theorem line63 : (sizeLine : Nat) < 2 ^ 63 := by rw [sizeLine_eq]; decide
/-! ### strs and bytes -/
/-! ### scalar builtins, by CallR -/
theorem vals1 {x : V} {us : List Value} (r : Vals [x] us) : ∃ u, us = [u] ∧ RelV x u := by
  cases r with
  | cons r1 r2 => cases r2; exact ⟨_, rfl, r1⟩
theorem vals2 {x y : V} {us : List Value} (r : Vals [x, y] us) : ∃ u w', us = [u, w'] ∧ RelV x u ∧ RelV y w' := by
  cases r with
  | cons r1 r2 =>
    cases r2 with
    | cons r3 r4 => cases r4; exact ⟨_, _, rfl, r1, r3⟩
theorem call_min2 (hc : X.calm = true) : CallR X (.builtin "min") (fun xs H Q => ∃ i j, xs = [.int i, .int j] ∧ Q (.int (if j < i then j else i)) H) := by
  intro pins s σ H xs us Q I r h
  obtain ⟨i, j, rfl, q⟩ := h
  obtain ⟨u, w', rfl, ⟨t, rfl⟩, ⟨t', rfl⟩⟩ := vals2 r
  refine min_two_ints (I.ok.hd hc) fun h' tk k => ⟨_, H, I.kept k, ?_, q⟩
  by_cases hj : j < i
  · rw [if_pos hj, if_pos hj]; exact ⟨_, rfl⟩
  · rw [if_neg hj, if_neg hj]; exact ⟨_, rfl⟩
theorem call_int1 : CallR X (.type "int") (fun xs H Q => (∃ i, xs = [.int i] ∧ Q (.int i) H) ∨ ∃ k, xs = [.bl k] ∧ Q (.int (if k then 1 else 0)) H) := by
  intro pins s σ H xs us Q I r h
  rcases h with ⟨i, rfl, q⟩ | ⟨k, rfl, q⟩
  · obtain ⟨u, rfl, t, rfl⟩ := vals1 r
    exact call_int_int ⟨.int i, H, I, ⟨_, rfl⟩, q⟩
  · obtain ⟨u, rfl, r1⟩ := vals1 r
    cases r1
    exact call_int_bool ⟨.int (if k then 1 else 0), H, I.tok _, ⟨_, rfl⟩, q⟩
end
end L2

namespace L2
open PySem PySem.Spec PyProof.Rows

/-! ### an instance, its attributes a map -/
structure ObjM (h : Heap) (x dx C : Addr) (mA : Str → Option Value) : Prop where
  obj : h.get? x = some (PySem.W.instObj C dx)
  ns : h.Ns1 dx mA
  ne : dx ≠ x

theorem lookIn_ns {h : Heap} {dx : Addr} {mA : Str → Option Value} (n : h.Ns1 dx mA) : ∃ od, h.get? dx = some od ∧ ∀ name, PySem.W.lookIn name od = some (mA name) := by
  obtain ⟨o, es, ep, ho, hd, hk, _, hm⟩ := n
  refine ⟨o, ho, fun name => ?_⟩
  have e := hm name
  unfold nsFind findBy at e
  rw [← Array.find?_toList] at e
  unfold PySem.W.lookIn
  rw [hd]
  dsimp only
  split
  · rename_i y q
    rw [q] at e
    exact congrArg some e
  · rename_i q
    rw [q] at e
    have a : es.toList.any (·.refKey) = false := by
      rw [List.any_eq_false]
      intro y hy
      obtain ⟨z, t, hkey⟩ := hk y (Array.mem_toList_iff.mp hy)
      simp [DictEntry.refKey, hkey]
    have a' : ¬ es.toList.any (·.refKey) = true := by rw [a]; exact Bool.false_ne_true
    rw [if_neg a']
    exact congrArg some e

theorem ObjM.look {h : Heap} {x dx C : Addr} {mA : Str → Option Value} (I : ObjM h x dx C mA) : ∃ od, PySem.W.InstAt h x (PySem.W.instObj C dx) C (some od) ∧ ∀ name, PySem.W.lookIn name od = some (mA name) :=
  let ⟨od, ho, hl⟩ := lookIn_ns I.ns
  ⟨od, ⟨I.obj, rfl, rfl, ho⟩, hl⟩

section
variable {prog : Program} {w : World} {A : Around} {E : Value → Shared → Prop} {s : Shared} {K : PySem.W.Frag} {x dx C f : Addr} {mA : Str → Option Value} {name : Str} {v : Value}

theorem get_map {expr : Bool} {Q : Value → Shared → Prop} (X : K.In s.heap) (I : ObjM s.heap x dx C mA) (hg : PySem.W.plainGet K C name = true) (hh : PySem.W.hasDictIn K C = true)
    (ha : PySem.W.findIn K (.ref C) name = some none) (hv : mA name = some v) (hv' : PySem.W.handedIn v = true) (h : Q v { s with toks := s.toks + 1 }) :
    wpAny (model prog w) A (getAttr (.ref x) name expr) Q E s := by
  obtain ⟨od, J, hl⟩ := I.look
  exact PySem.W.get_value X J (PySem.W.plainGet_of hg).1 (PySem.W.findObj_own hh ha rfl (by rw [hl, hv])) hv' h

theorem get_meth {pl : Sem Bool} {Q : Value × List Value → Shared → Prop} (X : K.In s.heap) (I : ObjM s.heap x dx C mA) (hg : PySem.W.plainGet K C name = true)
    (hf : PySem.W.findIn K (.ref C) name = some (some (.ref f))) (ht : PySem.W.isFn K (.ref f) = true) (hv : mA name = none) (h : Q (.ref f, [.ref x]) s) :
    wpAny (model prog w) A (getMethod (.ref x) name pl) Q E s := by
  obtain ⟨od, J, hl⟩ := I.look
  exact PySem.W.method_fn X J (PySem.W.plainGet_of hg).1 (PySem.W.plainGet_of hg).2 hf (beq_iff_eq.mp ht) (by show (PySem.W.lookIn name od).map (·.isSome) = some false; rw [hl, hv]; rfl) h

theorem set_map {ns : List Str} {Q : Unit → Shared → Prop} (X : K.In s.heap) (I : ObjM s.heap x dx C mA)
    (hs : PySem.W.findIn K (.ref C) "__setattr__" = some (some (.builtin "object.__setattr__"))) (hp : PySem.W.plainOver K C = true) (ht : PySem.W.takerIn K C name = some none) (hh : PySem.W.hasDictIn K C = true)
    (hw : PySem.Within mA ns) (hsz : ns.length ≤ sizeLine)
    (h : ∀ h', ObjM h' x dx C (fun y => if y = name then some v else mA y) → Heap.SameBut dx s.heap h' → Q () { s with heap := h', toks := s.toks + 2 }) :
    wpAny (model prog w) A (setAttr (.ref x) name v) Q E s := by
  obtain ⟨od, J, hl⟩ := I.look
  refine PySem.W.set_plain X J hs (PySem.W.osa_open (s := { s with toks := s.toks + 1 }) (r := none) X J hp ht fun b => ?_)
  obtain ⟨cd, hc, hd'⟩ := PySem.W.any_some hh
  have hx : s.heap.get? x = some ⟨.ref C, some dx, .plain, #[]⟩ := I.obj
  refine wpAny_bind (wpAny_pure (wpAny_bind (wpAny_bind (wpAny_loadPart hx (wpAny_bind (PySem.W.Looks.here (s := { s with toks := s.toks + 1 }) (PySem.W.looks_clsIn X hc) ?_))))))
  rw [hd']
  refine wpAny_pure (a := some dx) (wpAny_bind (wpAny_pure (wpAny_bind ?_)))
  refine wpAny_nsSet1 (s := { s with toks := s.toks + 1 }) I.ns fun h' hn2 hs2 => ?_
  obtain ⟨oD, esD, epD, hoD, hdD, hcD⟩ := hn2.count (PySem.Within.cons name v hw)
  refine wpAny_bind (wpAny_lookBehind hoD (by rw [hdD]; exact pastItsLine_dict (Nat.le_trans hcD (by rw [List.length_cons]; omega))) ?_)
  exact wpAny_pure (h _ ⟨(hs2.2 _ (Ne.symm I.ne)).trans I.obj, hn2, I.ne⟩ hs2)

/-- C(..): the dict at the heap's end, the instance behind it; then its __init__ -/
theorem make_map {R : Result → Shared → Prop} {vs : List Value} {kw : List (Str × Value)} (X : K.In s.heap) (hm : PySem.W.makesIn K C = true)
    (hi : PySem.W.findIn K (.ref C) "__init__" = some (some (.ref f))) (hf : PySem.W.typeIn K (.ref f) = some (.type "function"))
    (h : codeAny (model prog w) (A.under (.builtin "type.__call__" ⟨.ref C :: vs, kw⟩)) (.call (.ref f) ⟨.ref (s.heap.objs.size + 1) :: vs, kw⟩) (PySem.W.InitBack (s.heap.objs.size + 1) R)
      { s with heap := (s.heap.push PySem.W.emptyDict).push (PySem.W.instObj C s.heap.objs.size) }) :
    codeAny (model prog w) A (.call (.ref C) ⟨vs, kw⟩) R s := by
  obtain ⟨hh, g, d, t, os⟩ := s
  exact PySem.W.make_core (PySem.W.makes_of X hm) (PySem.W.looks_findIn X hi) (fun self => PySem.W.bind_fn X self hf) (.inl rfl) h
end

/-! ### the attributes as a list of pairs -/
def putF (f : Str) (v : V) : List (Str × V) → List (Str × V)
  | [] => [(f, v)]
  | (g, x) :: r => if g = f then (g, v) :: r else (g, x) :: putF f v r
theorem lookup_putF (f g : Str) (v : V) : ∀ fs : List (Str × V), (putF f v fs).lookup g = if g = f then some v else fs.lookup g
  | [] => by
    show List.lookup g [(f, v)] = _
    by_cases h : g = f
    · have hb : (g == f) = true := beq_iff_eq.mpr h
      simp only [List.lookup, hb, if_pos h]
    · have hb : (g == f) = false := beq_eq_false_iff_ne.mpr h
      simp only [List.lookup, hb, if_neg h]
  | (k, x) :: r => by
    have ih := lookup_putF f g v r
    rw [show putF f v ((k, x) :: r) = (if k = f then (k, v) :: r else (k, x) :: putF f v r) from rfl]
    by_cases hk : k = f
    · rw [if_pos hk]
      by_cases h : g = k
      · have hb : (g == k) = true := beq_iff_eq.mpr h
        simp only [List.lookup, hb, if_pos (h.trans hk)]
      · have hb : (g == k) = false := beq_eq_false_iff_ne.mpr h
        simp only [List.lookup, hb, if_neg (fun e : g = f => h (e.trans hk.symm))]
    · rw [if_neg hk]
      by_cases h : g = k
      · have hb : (g == k) = true := beq_iff_eq.mpr h
        simp only [List.lookup, hb, if_neg (fun e : g = f => hk (h.symm.trans e))]
      · have hb : (g == k) = false := beq_eq_false_iff_ne.mpr h
        simp only [List.lookup, hb]
        exact ih
theorem keys_putF (f : Str) (v : V) : ∀ fs : List (Str × V), f ∈ (putF f v fs).map (·.1) ∧ ∀ g, g ∈ fs.map (·.1) → g ∈ (putF f v fs).map (·.1)
  | [] => ⟨by simp [putF], fun g h => by simp at h⟩
  | (k, x) :: r => by
    obtain ⟨i1, i2⟩ := keys_putF f v r
    rw [show putF f v ((k, x) :: r) = (if k = f then (k, v) :: r else (k, x) :: putF f v r) from rfl]
    by_cases hk : k = f
    · rw [if_pos hk]
      subst hk
      exact ⟨by simp, fun g h => by simpa using h⟩
    · rw [if_neg hk]
      refine ⟨?_, fun g h => ?_⟩
      · rw [List.map_cons]
        exact List.mem_cons_of_mem _ i1
      · rw [List.map_cons] at h ⊢
        rcases List.mem_cons.mp h with e | e
        · exact List.mem_cons.mpr (.inl e)
        · exact List.mem_cons_of_mem _ (i2 g e)
theorem length_putF (f : Str) (v : V) : ∀ fs : List (Str × V), (putF f v fs).length ≤ fs.length + 1
  | [] => by simp [putF]
  | (k, x) :: r => by
    have ih := length_putF f v r
    rw [show putF f v ((k, x) :: r) = (if k = f then (k, v) :: r else (k, x) :: putF f v r) from rfl]
    by_cases hk : k = f
    · rw [if_pos hk, List.length_cons, List.length_cons]; omega
    · rw [if_neg hk, List.length_cons, List.length_cons]; omega

theorem RelO.some_of {v : V} {o : Option Value} (r : RelO (some v) o) : ∃ u, o = some u ∧ RelV v u := by
  cases o with
  | none => exact (show False from r).elim
  | some u => exact ⟨u, rfl, r⟩
theorem RelO.none_of {o : Option Value} (r : RelO none o) : o = none := by
  cases o with
  | none => rfl
  | some u => exact (show False from r).elim
theorem handed_of {v : V} {u : Value} (r : RelV v u) : PySem.W.handedIn u = true := by
  cases v with
  | non => cases (show u = Value.none from r); rfl
  | bl b => cases (show u = Value.bool b from r); rfl
  | int i => obtain ⟨t, e⟩ := (show ∃ t, u = Value.int i t from r); cases e; rfl
  | str x => obtain ⟨t, e⟩ := (show ∃ t, u = Value.str x t from r); cases e; rfl
  | byt b => obtain ⟨t, e⟩ := (show ∃ t, u = Value.bytes b t from r); cases e; rfl
  | flt b => obtain ⟨t, e⟩ := (show ∃ t, u = Value.float b t from r); cases e; rfl
  | ref a => cases (show u = Value.ref a from r); rfl
  | ty n => cases (show u = Value.type n from r); rfl

section
variable {P : Program} {w : World} {H H' : Hp} {h h' : Heap} {a C dx : Addr} {fs fs' : List (Str × V)}
theorem ins_get (hok : HOk P w H h) (e : H a = some (.ins C dx fs)) : ∃ mA, ObjM h a dx C mA ∧ (∀ f, RelO (fs.lookup f) (mA f)) ∧ PySem.Within mA (fs.map (·.1)) ∧ fs.length ≤ 1000 ∧ H dx = some (.own a) := by
  obtain ⟨d, z, ne, ob, mA, n, r, q⟩ := (show ObjOk P w H h a (.ins C dx fs) from hok a _ e)
  exact ⟨mA, ⟨ob, n, ne⟩, r, q, z, d⟩
end

/-! ### what of the text a class must have -/
structure Cls (K : PySem.W.Frag) (C : Addr) : Prop where
  pg : PySem.W.plainGet K C Str.empty = true
  hd : PySem.W.hasDictIn K C = true
  po : PySem.W.plainOver K C = true
  sa : PySem.W.findIn K (.ref C) "__setattr__" = some (some (.builtin "object.__setattr__"))
theorem Cls.get {K : PySem.W.Frag} {C : Addr} (c : Cls K C) (f : Str) : PySem.W.plainGet K C f = true := c.pg
/-- no class of it has the name -/
def NoAttr (K : PySem.W.Frag) (C : Addr) (f : Str) : Prop := PySem.W.findIn K (.ref C) f = some none
theorem NoAttr.taker {K : PySem.W.Frag} {C : Addr} {f : Str} (n : NoAttr K C f) : PySem.W.takerIn K C f = some none := by
  unfold PySem.W.takerIn
  rw [show PySem.W.findIn K (.ref C) f = some none from n]
  rfl
/-- a method: a plain def of the class or of one above it -/
structure Meth (K : PySem.W.Frag) (C : Addr) (m : Str) (f : Addr) : Prop where
  at_ : PySem.W.findIn K (.ref C) m = some (some (.ref f))
  fn : PySem.W.isFn K (.ref f) = true
  kp : PySem.W.keepIn K (.ref f) = true

section
variable {X : Cx} {pins : List (Addr × Obj)} {σ : St} {H : Hp} {s : Shared} {a C dx : Addr} {fs : List (Str × V)} {f : Str} {v : V} {A : Around} {E : Value → Shared → Prop}

theorem getattr_ok {b : Bool} {Q : Value → Shared → Prop} (I : Inv X pins σ H s) (e : H a = some (.ins C dx fs)) (c : Cls X.K C) (n : NoAttr X.K C f) (l : fs.lookup f = some v)
    (h : ∀ u s', Inv X pins σ H s' → RelV v u → Q u s') : wpAny (model X.prog X.w) A (getAttr (.ref a) f b) Q E s := by
  obtain ⟨mA, O, r, _, _, _⟩ := ins_get I.hok e
  obtain ⟨u, hu, ru⟩ := RelO.some_of (v := v) (o := mA f) (by rw [← l]; exact r f)
  exact get_map I.kIn O (c.get f) c.hd n hu (handed_of ru) (h u _ (I.tok _) ru)

theorem getmeth_ok {m : Str} {g : Addr} {pl : Sem Bool} {Q : Value × List Value → Shared → Prop} (I : Inv X pins σ H s) (e : H a = some (.ins C dx fs)) (c : Cls X.K C) (k : Meth X.K C m g) (l : fs.lookup m = none)
    (h : Q (.ref g, [.ref a]) s) : wpAny (model X.prog X.w) A (getMethod (.ref a) m pl) Q E s := by
  obtain ⟨mA, O, r, _, _, _⟩ := ins_get I.hok e
  have hn : mA m = none := RelO.none_of (by rw [← l]; exact r m)
  exact get_meth I.kIn O (c.get m) k.at_ k.fn hn h

theorem setattr_ok {y : V} {u : Value} {Q : Unit → Shared → Prop} (I : Inv X pins σ H s) (e : H a = some (.ins C dx fs)) (c : Cls X.K C) (n : NoAttr X.K C f) (hl : fs.length < 1000) (ry : RelV y u)
    (h : ∀ s', Inv X pins σ (upd H a (.ins C dx (putF f y fs))) s' → Q () s') : wpAny (model X.prog X.w) A (setAttr (.ref a) f u) Q E s := by
  obtain ⟨mA, O, r, wi, _, ho⟩ := ins_get I.hok e
  have hz : (fs.map (·.1)).length ≤ sizeLine := by rw [List.length_map, sizeLine_eq]; omega
  refine set_map I.kIn O c.sa c.po n.taker c.hd wi hz fun h' O' sb => h _ ?_
  have hd : ∃ o, h'.get? dx = some o := let ⟨o, _, _, e', _⟩ := O'.ns; ⟨o, e'⟩
  refine I.write (x := a) (e := dx) (by rw [e]; exact True.intro) (.inr ho) (fun b q hb z => (sb.2 b hb).trans z) hd ?_
  refine ⟨by rw [upd_ne O.ne]; exact ho, ?_, O.ne, O'.obj, _, O'.ns, fun g => ?_, fun g hg => ?_⟩
  · have := length_putF f y fs; omega
  · show RelO ((putF f y fs).lookup g) (if g = f then some u else mA g)
    rw [lookup_putF]
    by_cases q : g = f
    · rw [if_pos q, if_pos q]; exact ry
    · rw [if_neg q, if_neg q]; exact r g
  · by_cases q : g = f
    · rw [q]; exact (keys_putF f y fs).1
    · refine (keys_putF f y fs).2 g (wi g fun z => hg ?_)
      show (if g = f then some u else mA g) = none
      rw [if_neg q]; exact z

/-- a new instance, tracked, without attributes -/
theorem Inv.made (I : Inv X pins σ H s) : Inv X pins σ (upd (upd H s.heap.objs.size (.own (s.heap.objs.size + 1))) (s.heap.objs.size + 1) (.ins C s.heap.objs.size []))
    { s with heap := (s.heap.push PySem.W.emptyDict).push (PySem.W.instObj C s.heap.objs.size) } := by
  have e1 : (s.heap.push PySem.W.emptyDict).get? s.heap.objs.size = some PySem.W.emptyDict := Heap.get?_push_size s.heap rfl
  have e2 : ((s.heap.push PySem.W.emptyDict).push (PySem.W.instObj C s.heap.objs.size)).get? (s.heap.objs.size + 1) = some (PySem.W.instObj C s.heap.objs.size) := by
    have := Heap.get?_push_size (s.heap.push PySem.W.emptyDict) (o := PySem.W.instObj C s.heap.objs.size) rfl
    rwa [Heap.size_push] at this
  have e3 : (s.heap.push PySem.W.emptyDict).Ns s.heap.objs.size (fun _ => none) := ⟨PySem.W.emptyDict, #[], _, e1, rfl, (fun e he => absurd he (by simp)), fun _ => rfl⟩
  have I1 := I.laid (a := s.heap.objs.size) (o := .own (s.heap.objs.size + 1)) (h' := s.heap.push PySem.W.emptyDict) (t' := s.toks) (fun b u q => Heap.get?_push_of_some _ q) (Nat.le_refl _) ⟨_, e1⟩
  refine I1.laid (a := s.heap.objs.size + 1) (o := .ins C s.heap.objs.size []) (t' := s.toks) (fun b u q => Heap.get?_push_of_some _ q) (Nat.le_of_eq (Heap.size_push _ _)) ?_
  have ne : s.heap.objs.size ≠ s.heap.objs.size + 1 := Nat.ne_of_lt (Nat.lt_succ_self _)
  refine ⟨by rw [upd_ne ne, upd_same], Nat.zero_le _, ne, e2, fun _ => none, (Heap.Ns1.of_empty e3).at fun o q => Heap.get?_push_of_some _ q, fun _ => True.intro, fun y hy => absurd rfl hy⟩

/-- e.f where nothing but the object is asked: through attributeBase (super) and the last hold -/
theorem attr_of {prog : Program} {w : World} {env : Env} {e : Expr} {f : Str} {pos : Pos} {s : Shared} {Q : Value → Shared → Prop} (hb : attributeBase e f env (eval e env) = eval e env)
    (h : wpAny (model prog w) A (eval e env) (fun o s₁ => wpAny (model prog w) A (getAttr o f true) Q E s₁) E s) : wpAny (model prog w) A (eval (.Attribute e f pos) env) Q E s :=
  Attribute_any_ h (by rw [arm_eval_Attribute, hb])
end

/-! ### readings and rules -/
/-- e.f, an attribute of the instance -/
def tFld (K : PySem.W.Frag) (ta : TE) (f : Str) : TE := fun σ H Q => ta σ H fun x H1 => ∃ a C dx fs v, x = .ref a ∧ H1 a = some (.ins C dx fs) ∧ Cls K C ∧ NoAttr K C f ∧ fs.lookup f = some v ∧ Q v H1
/-- e.f = value -/
def sFld (K : PySem.W.Frag) (ta tv : TE) (f : Str) : TS := fun D σ H => tv σ H fun y H1 => ta σ H1 fun x H2 => ∃ a C dx fs, x = .ref a ∧ H2 a = some (.ins C dx fs) ∧ Cls K C ∧ NoAttr K C f ∧ fs.length < 1000 ∧
  D.nx σ (upd H2 a (.ins C dx (putF f y fs)))
/-- an augmented operator on two values -/
def InOp (X : Cx) (op : Operator) (rd : V → V → Hp → VK → Prop) : Prop :=
  ∀ (pins : List (Addr × Obj)) (s : Shared) (σ : St) (H : Hp) (x y : V) (u v : Value) (Q : VK), Inv X pins σ H s → RelV x u → RelV y v → rd x y H Q → wpAny (model X.prog X.w) X.A (inplaceOp op u v) (EP X pins σ Q) X.xe s
/-- e.f op= value -/
def sFldAug (K : PySem.W.Frag) (ta tv : TE) (rd : V → V → Hp → VK → Prop) (f : Str) : TS := fun D σ H => ta σ H fun x H1 => ∃ a C dx fs v, x = .ref a ∧ H1 a = some (.ins C dx fs) ∧ Cls K C ∧ NoAttr K C f ∧ fs.lookup f = some v ∧
  tv σ H1 fun y H2 => rd v y H2 fun z H3 => ∃ dx' fs', H3 a = some (.ins C dx' fs') ∧ fs'.length < 1000 ∧ D.nx σ (upd H3 a (.ins C dx' (putF f z fs')))

section
variable {X : Cx} {o e value : Expr} {f : Str} {pos pos' tpos : Pos} {ta tv : TE}
theorem pe_fld (he : PE X e ta) (hb : attributeBase e f X.env (eval e X.env) = eval e X.env) : PE X (.Attribute e f pos) (tFld X.K ta f) := by
  intro pins s σ H Q I h
  refine attr_of hb (thn (he pins s σ H _ I h) fun u s1 ⟨x, H1, I1, rx, a, C, dx, fs, v, ex, ea, c, n, l, q⟩ => ?_)
  subst ex
  obtain rfl : u = Value.ref a := rx
  exact getattr_ok I1 ea c n l fun u' s2 I2 ru => ⟨v, H1, I2, ru, q⟩
theorem ps_fld (ha : PE X o ta) (hv : PE X value tv) (hs : swapsWith value (some (.Attribute o f pos')) pos.line X.env = pure false) : PS X (.Assign [.Attribute o f pos'] value pos) (sFld X.K ta tv f) := by
  intro pins s σ H D I h
  refine plainObj_wpAny_Assign_Attribute (thn (hv pins s σ H _ I h) fun u s1 ⟨y, H1, I1, ry, q⟩ => thn (ha pins s1 σ H1 _ I1 q) fun ov s2 ⟨x, H2, I2, rx, a, C, dx, fs, ex, ea, c, n, l, q2⟩ => ?_) hs
  subst ex
  obtain rfl : ov = Value.ref a := rx
  exact setattr_ok I2 ea c n l ry fun s3 I3 => ⟨σ, _, I3, q2⟩
theorem ps_fldaug {op : Operator} {rd : V → V → Hp → VK → Prop} (ha : PE X o ta) (hv : PE X value tv) (hop : InOp X op rd) : PS X (.AugAssign (.Attribute o f tpos) op value pos) (sFldAug X.K ta tv rd f) := by
  intro pins s σ H D I h
  refine wpAny_AugAssign_AttributeAny (thn (ha pins s σ H _ I h) fun ov s1 ⟨x, H1, I1, rx, a, C, dx, fs, v, ex, ea, c, n, l, q⟩ => ?_)
  subst ex
  obtain rfl : ov = Value.ref a := rx
  refine getattr_ok I1 ea c n l fun u s2 I2 ru => thn (hv pins s2 σ H1 _ I2 q) fun w3 s3 ⟨y, H2, I3, ry, q3⟩ => thn (hop pins s3 σ H2 v y u w3 _ I3 ru ry q3) fun w4 s4 ⟨z, H3, I4, rz, dx', fs', ea', l', q4⟩ => ?_
  exact setattr_ok I4 ea' c n l' rz fun s5 I5 => ⟨σ, _, I5, q4⟩
end

/-! ### isinstance -/
section
variable {X : Cx} {pins : List (Addr × Obj)} {σ : St} {H : Hp} {s : Shared} {A : Around} {E : Value → Shared → Prop} {Q : Value → Shared → Prop} {c : Value} {b : Bool}
/-- the type of a value, as the fragment's deciders take it; for an instance its class -/
inductive TyOf (K : PySem.W.Frag) (H : Hp) : V → Value → Prop where
  | non : TyOf K H .non (.type "NoneType")
  | bl (x : Bool) : TyOf K H (.bl x) (.type "bool")
  | int (i : Int) : TyOf K H (.int i) (.type "int")
  | str (x : Str) : TyOf K H (.str x) (.type "str")
  | flt (x : UInt64) : TyOf K H (.flt x) (.type "float")
  | lst {a : Addr} {xs : List V} (e : H a = some (.lst xs)) : TyOf K H (.ref a) (.type "list")
  | frz {a : Addr} {o : Obj} {xs : List V} (e : H a = some (.frz o (.lst xs))) : TyOf K H (.ref a) (.type "list")
  | tup {a : Addr} {xs : List V} (e : H a = some (.tup xs)) : TyOf K H (.ref a) (.type "tuple")
  | dK {a : Addr} {kvs : List (Key × V)} (e : H a = some (.dK kvs)) : TyOf K H (.ref a) (.type "dict")
  | dT {a : Addr} {kvs : List (List Key × V)} (e : H a = some (.dT kvs)) : TyOf K H (.ref a) (.type "dict")
  | ins {a C dx : Addr} {fs : List (Str × V)} (e : H a = some (.ins C dx fs)) (cl : Cls K C) (ha : PySem.W.findIn K (.ref C) "__class__" = some (some (.builtin "object.__class__")))
      (hn : PySem.W.specialIn K (.builtin "object.__class__") "__get__" = some (some (.builtin "getset_descriptor.__get__"))) (htk : PySem.W.takesIn K (.builtin "object.__class__") = some true)
      (hm : PySem.W.mroIn K C (.type "object") = some true) : TyOf K H (.ref a) (.ref C)
/-- isinstance(x, c) for one class c, a built-in or an own one: kitOne's answer -/
theorem isinst_ok {x : V} {u t : Value} (I : Inv X pins σ H s) (rx : RelV x u) (ty : TyOf X.K H x t) (e : PySem.W.kitOne X.K t c = some b) (h : ∀ tk, Q (.bool b) { s with toks := tk }) :
    wpAny (model X.prog X.w) A (call (.builtin "isinstance") [u, c]) Q E s := by
  cases ty with
  | non => cases (show u = Value.none from rx); exact PySem.W.kia_one PySem.W.kitx_none I.kIn True.intro e (fun z => nomatch z) h
  | bl y => cases (show u = Value.bool y from rx); exact PySem.W.kia_one PySem.W.kitx_bool I.kIn True.intro e (fun z => nomatch z) h
  | int i => obtain ⟨t, q⟩ := (show ∃ t, u = Value.int i t from rx); cases q; exact PySem.W.kia_one PySem.W.kitx_int I.kIn True.intro e (fun z => nomatch z) h
  | str y => obtain ⟨t, q⟩ := (show ∃ t, u = Value.str y t from rx); cases q; exact PySem.W.kia_one PySem.W.kitx_str I.kIn True.intro e (fun z => nomatch z) h
  | flt y => obtain ⟨t, q⟩ := (show ∃ t, u = Value.float y t from rx); cases q; exact PySem.W.kia_one PySem.W.kitx_float I.kIn True.intro e (fun z => nomatch z) h
  | @lst a xs ea =>
    cases (show u = Value.ref a from rx)
    obtain ⟨_, _, n, _, h1⟩ := (show ObjOk X.prog X.w H s.heap a (.lst xs) from I.hok a _ ea)
    exact PySem.W.kia_one PySem.W.kitx_list I.kIn ⟨_, h1, rfl⟩ e (fun z => nomatch z) h
  | @frz a ob xs ea =>
    cases (show u = Value.ref a from rx)
    obtain ⟨_, _, _, n, _, h1⟩ := (show ObjOk X.prog X.w H s.heap a (.frz ob (.lst xs)) from I.hok a _ ea)
    exact PySem.W.kia_one PySem.W.kitx_list I.kIn ⟨_, h1, rfl⟩ e (fun z => nomatch z) h
  | @tup a xs ea =>
    cases (show u = Value.ref a from rx)
    obtain ⟨_, _, _, p⟩ := (show ObjOk X.prog X.w H s.heap a (.tup xs) from I.hok a _ ea)
    obtain ⟨o, h1, h2, _⟩ := p
    exact PySem.W.kia_one PySem.W.kitx_tuple I.kIn ⟨o, h1, h2⟩ e (fun z => nomatch z) h
  | @dK a kvs ea =>
    cases (show u = Value.ref a from rx)
    obtain ⟨_, _, vs, _, p⟩ := (show ObjOk X.prog X.w H s.heap a (.dK kvs) from I.hok a _ ea)
    obtain ⟨o, es, ep, h1, h2, _⟩ := p
    exact PySem.W.kia_one PySem.W.kitx_dict I.kIn ⟨o, h1, h2.1⟩ e (fun z => nomatch z) h
  | @dT a kvs ea =>
    cases (show u = Value.ref a from rx)
    obtain ⟨_, _, xs, _, o, es, ep, h1, h2, _⟩ := (show ObjOk X.prog X.w H s.heap a (.dT kvs) from I.hok a _ ea)
    exact PySem.W.kia_one PySem.W.kitx_dict I.kIn ⟨o, h1, h2.1⟩ e (fun z => nomatch z) h
  | @ins a C dx fs ea cl ha hn htk hm =>
    cases (show u = Value.ref a from rx)
    obtain ⟨mA, O, _⟩ := ins_get I.hok ea
    obtain ⟨od, J, _⟩ := O.look
    exact PySem.W.kia_one (PySem.W.kitx_own (cl.get _) cl.hd ha hn htk hm) I.kIn J e (fun z => nomatch z) h
end
end L2

namespace L2
open PySem PySem.Spec PyProof.Rows

/-! ### room -/
structure Room (k : Nat) (A : Around) : Prop where
  hd : A.handled = none
  dp : A.depth + 3 * k + 5 < recursionLimit
  un : A.units + 16 * k + 200 < cLine
theorem Room.mono {j k : Nat} {A : Around} (r : Room k A) (h : j ≤ k) : Room j A := ⟨r.hd, by have := r.dp; omega, by have := r.un; omega⟩
theorem Room.deeper {k : Nat} {A : Around} (r : Room (k + 1) A) (env : Env) : Room k (A.deeper env) :=
  ⟨r.hd, by have := r.dp; show A.depth + 1 + 3 * k + 5 < _; omega, by have := r.un; show A.units + 3 + 16 * k + 200 < _; omega⟩
theorem make_depth {A : Around} {C : Addr} {us : List Value} {kw : List (Str × Value)} : (A.under (.builtin "type.__call__" ⟨.ref C :: us, kw⟩)).depth = A.depth + 1 := by
  first | rfl | simp [Around.under, Code.weight, Code.isCreation, Code.isGuard, Code.isCaller, Code.frames, Code.isFrame, guardIds]
theorem make_units {A : Around} {C : Addr} {us : List Value} {kw : List (Str × Value)} : (A.under (.builtin "type.__call__" ⟨.ref C :: us, kw⟩)).units = A.units + 1 := by
  first | rfl | simp [Around.under, Code.cUnits, Code.frames, Code.isFrame]
theorem Room.make {k : Nat} {A : Around} (r : Room (k + 1) A) (C : Addr) (us : List Value) (kw : List (Str × Value)) : Room k (A.under (.builtin "type.__call__" ⟨.ref C :: us, kw⟩)) :=
  ⟨r.hd, by have := r.dp; rw [make_depth]; omega, by have := r.un; rw [make_units]; omega⟩
theorem Room.depth {k : Nat} {A : Around} (r : Room k A) : A.depth < recursionLimit := by have := r.dp; omega
theorem Room.units {k : Nat} {A : Around} (r : Room k A) : A.units + 64 < cLine := by have := r.un; omega
/-! ### argument lists and displays -/
def tNil : TA := fun _ H Q => Q [] H
def tCons (ta : TE) (tr : TA) : TA := fun σ H Q => ta σ H fun x H1 => tr σ H1 fun xs H2 => Q (x :: xs) H2
section
variable {X : Cx} {e : Expr} {es : List Expr} {te : TE} {t : TA} {pos : Pos}
theorem pa_nil : PA X [] tNil := fun _ _ _ _ H Q I h => Calls.spliced_nil ⟨[], H, I, .nil, h⟩
theorem pa_cons (ha : PE X e te) (hr : PA X es t) (hs : starEach (e :: es) X.env = (false, eval e X.env) :: starEach es X.env := by rfl) : PA X (e :: es) (tCons te t) := by
  intro pos pins s σ H Q I h
  rw [hs]
  show wpAny _ _ (spliced ((false, eval e X.env) :: backTo pos (starEach es X.env))) _ _ s
  refine Calls.spliced_cons (thn (ha pins s σ H _ I h) fun u s1 ⟨x, H1, I1, r1, q1⟩ => ?_)
  exact thn (hr pos pins s1 σ H1 _ I1 q1) fun us s2 ⟨xs, H2, I2, r2, q2⟩ => ⟨x :: xs, H2, I2, .cons r1 r2, q2⟩

/-- a tuple, a list of written items -/
def tTup (t : TA) : TE := fun σ H Q => t σ H fun xs H1 => xs.length ≤ sizeLine ∧ ∀ p, H1 p = none → Q (.ref p) (upd H1 p (.tup xs))
def tLst (t : TA) : TE := fun σ H Q => t σ H fun xs H1 => xs.length ≤ sizeLine ∧ ∀ p, H1 p = none → Q (.ref p) (upd H1 p (.lst xs))
theorem pe_tup {x1} (h : PA X es t) : PE X (.Tuple es x1 pos) (tTup t) := by
  intro pins s σ H Q I hq
  refine wpAny_Tuple_spliced (thn (h pos pins s σ H _ I hq) fun us s1 ⟨xs, H1, I1, r, z, q⟩ => ⟨by rw [← r.length]; exact z, ?_⟩)
  have hf : H1 s1.heap.objs.size = none := I1.hok.fresh (Nat.le_refl _)
  refine ⟨.ref s1.heap.objs.size, upd H1 s1.heap.objs.size (.tup xs), I1.laid (t' := s1.toks) (fun b u e => Heap.get?_push_of_some _ e) (Nat.le_refl _) ?_, rfl, q _ hf⟩
  exact ⟨z, us, r, ⟨_, Heap.get?_push_size _ rfl, rfl, _, rfl⟩⟩
theorem pe_lst (h : PA X es t) : PE X (.List es pos) (tLst t) := by
  intro pins s σ H Q I hq
  refine wpAny_List_spliced (thn (h pos pins s σ H _ I hq) fun us s1 ⟨xs, H1, I1, r, z, q⟩ => ⟨by rw [← r.length]; exact z, ?_⟩)
  have hf : H1 s1.heap.objs.size = none := I1.hok.fresh (Nat.le_refl _)
  refine ⟨.ref s1.heap.objs.size, upd H1 s1.heap.objs.size (.lst xs), I1.laid (t' := s1.toks) (fun b u e => Heap.get?_push_of_some _ e) (Nat.le_refl _) ?_, rfl, q _ hf⟩
  exact ⟨z, us, 0, r, Heap.get?_push_size _ rfl⟩
end

/-! ### what a def promises -/
/-- a def's promise: the bound arguments in the parameters' order, the heap, the wanted end, the wanted exception -/
abbrev Sp := List V → Hp → VK → XK → Prop
/-- how an exception lies behind a call (file 08 gives it): the callers' frames, abstract heap and state ahead of the call, the wish, the exception, the state -/
abbrev CXT := List Env → Hp → Shared → XK → Value → Shared → Prop

/-- the state at a call -/
structure Env0 (P : Program) (w : World) (K : PySem.W.Frag) (mg : Str → Option Value) (base : Heap) (A : Around) (outer : List Env) (s : Shared) (H : Hp) : Prop where
  frames : A.frames = some outer
  mod : Mod K mg base
  bs : ∀ b o, base.get? b = some o → s.heap.get? b = some o ∧ H b = none
  bsz : base.objs.size ≤ s.heap.objs.size
  funs : s.heap.FunFrames base outer
  frf : ∀ b ∈ frs outer, H b = none
  hok : HOk P w H s.heap
  bare : AllBare s.gens
/-- a call's end -/
def CE (outer : List Env) (P : Program) (w : World) (H : Hp) (s : Shared) (Q : VK) (u : Value) (s' : Shared) : Prop :=
  ∃ v H', s'.os = s.os ∧ AllBare s'.gens ∧ Un (frs outer) [] H H' s.heap s'.heap ∧ HOk P w H' s'.heap ∧ RelV v u ∧ Q v H'
def CR (CX : CXT) (outer : List Env) (P : Program) (w : World) (H : Hp) (s : Shared) (Q : VK) (E : XK) (r : Result) (s' : Shared) : Prop :=
  match r with
  | .ok (.ret u) => CE outer P w H s Q u s'
  | .ok _ => False
  | .error e => CX outer H s E e s'
structure FnOk (P : Program) (w : World) (K : PySem.W.Frag) (mg : Str → Option Value) (base : Heap) (CX : CXT) (k : Nat) (f : Addr) (fd : FuncData) (ps : List Str) (sp : Sp) : Prop where
  len : ∀ vs H Q E, sp vs H Q E → vs.length = ps.length
  run : ∀ (A : Around) (outer : List Env) (s : Shared) (H : Hp) (args : Args) (us : List Value) (vs : List V) (Q : VK) (E : XK), Room k A → Env0 P w K mg base A outer s H → BindsTo s fd args (ps.zip us) → Vals vs us → sp vs H Q E →
    codeAny (model P w) A (.call (.ref f) args) (CR CX outer P w H s Q E) s
theorem Env0.make {P : Program} {w : World} {K : PySem.W.Frag} {mg : Str → Option Value} {base : Heap} {A : Around} {outer : List Env} {s : Shared} {H : Hp} (e : Env0 P w K mg base A outer s H) (C : Addr) (us : List Value) (kw : List (Str × Value)) :
    Env0 P w K mg base (A.under (.builtin "type.__call__" ⟨.ref C :: us, kw⟩)) outer s H := ⟨by first | exact e.frames | (simpa [Around.under, Code.envs, Code.isFrame, pushEnvs] using e.frames), e.mod, e.bs, e.bsz, e.funs, e.frf, e.hok, e.bare⟩
section
variable {X : Cx} {pins : List (Addr × Obj)} {σ : St} {H : Hp} {s s' : Shared}
/-- from a body: what a callee wants -/
theorem Inv.env0 (I : Inv X pins σ H s) : Env0 X.prog X.w X.K X.mg X.base X.A X.stack s H :=
  ⟨I.ok.frames, I.ok.mod, I.bs, Nat.le_trans I.ok.bsz I.sz, I.stack, I.stkFree, I.hok, I.bare⟩
/-- behind a call -/
theorem Inv.after {Q : VK} {u : Value} (I : Inv X pins σ H s) (h : CE X.stack X.prog X.w H s Q u s') : EP X pins σ Q u s' := by
  obtain ⟨v, H', os, bare, un, hok, r, q⟩ := h
  obtain ⟨hh, g, d, t, os'⟩ := s'
  obtain rfl : os' = s.os := os
  exact ⟨v, H', I.call (h' := hh) (g' := g) (d' := d) (t' := t) (ch := []) un hok bare (fun b z => absurd z (by simp)), r, q⟩
end

/-! ### calls -/
/-- f(..): the written arguments, then the defaults dvs; E: what is wanted of an exception -/
def tCall (sp : Sp) (dvs : List V) (E : XK) (t : TA) : TE := fun σ H Q => t σ H fun vs H1 => sp (vs ++ dvs) H1 Q E
/-- o.m(..) of an instance of the class at C -/
def tMeth (C : Addr) (m : Str) (sp : Sp) (dvs : List V) (E : XK) (ta : TE) (t : TA) : TE := fun σ H Q => ta σ H fun x H1 => ∃ a dx fs, x = .ref a ∧ H1 a = some (.ins C dx fs) ∧ fs.lookup m = none ∧
  t σ H1 fun vs H2 => sp (x :: (vs ++ dvs)) H2 Q E
/-- C(..): a new instance and its dict, then __init__ -/
def tMake (C : Addr) (sp : Sp) (dvs : List V) (E : XK) (t : TA) : TE := fun σ H Q => t σ H fun vs H1 => ∀ x dx, H1 x = none → H1 dx = none → dx ≠ x →
  sp (.ref x :: (vs ++ dvs)) (upd (upd H1 dx (.own x)) x (.ins C dx [])) (fun v H2 => v = .non ∧ Q (.ref x) H2) E

/-- how the parameters are bound: us the positional arguments, kw the keywords' values by name, ds the defaults that fill up -/
def Binds (K : PySem.W.Frag) (fd : FuncData) (ps : List Str) (ds : List Value) : Prop :=
  ∀ (s : Shared) (us : List Value), K.In s.heap → (us ++ ds).length = ps.length → BindsTo s fd ⟨us, []⟩ (ps.zip (us ++ ds))
/-- every parameter is given -/
theorem Binds.all {K : PySem.W.Frag} {fd : FuncData} {ps : List Str} (h : ∀ us : List Value, us.length = ps.length → bindArgs fd ⟨us, []⟩ = pure (ps.zip us)) : Binds K fd ps [] := fun s us _ hl => by
  rw [List.append_nil] at hl ⊢
  exact .of_eq (h us hl)

/-- an exception of a callee reaches what this body wants of exceptions -/
def Passes (CX : CXT) (X : Cx) (E : XK) : Prop := ∀ (pins : List (Addr × Obj)) (σ : St) (H : Hp) (s : Shared) (e : Value) (s' : Shared), Inv X pins σ H s → CX X.stack H s E e s' → X.xe e s'

section
variable {X : Cx} {CX : CXT} {k : Nat} {f C : Addr} {fd : FuncData} {ps : List Str} {sp : Sp} {dvs : List V} {ds : List Value} {E : XK} {x m : Str} {p pos apos : Pos} {e o : Expr} {es : List Expr} {ta : TE} {t : TA}

/-- the callee runs -/
theorem run_fn {pins : List (Addr × Obj)} {σ : St} {H : Hp} {s : Shared} {Q : VK} {us : List Value} {vs : List V} (F : FnOk X.prog X.w X.K X.mg X.base CX k f fd ps sp) (hr : Room k X.A) (hb : Binds X.K fd ps ds) (hd : Vals dvs ds) (hx : Passes CX X E)
    (I : Inv X pins σ H s) (r : Vals vs us) (h : sp (vs ++ dvs) H Q E) : wpAny (model X.prog X.w) X.A (call (.ref f) us) (EP X pins σ Q) X.xe s := by
  have r2 : Vals (vs ++ dvs) (us ++ ds) := r.append hd
  have hl : (us ++ ds).length = ps.length := by rw [← r2.length]; exact F.len _ _ _ _ h
  refine wpAny_call (codeAny_mono (F.run X.A X.stack s H ⟨us, []⟩ (us ++ ds) (vs ++ dvs) Q E hr I.env0 (hb s us I.kIn hl) r2 h) fun r s' hq => ?_)
  cases r with
  | error e => exact hx pins σ H s e s' I hq
  | ok fl =>
    cases fl with
    | ret u => exact I.after hq
    | next => exact False.elim hq
    | brk => exact False.elim hq
    | cont => exact False.elim hq

theorem pe_call (F : FnOk X.prog X.w X.K X.mg X.base CX k f fd ps sp) (hr : Room k X.A) (hg : Gl X x) (hm : X.mg x = some (.ref f)) (hk : PySem.W.keepIn X.K (.ref f) = true) (hb : Binds X.K fd ps ds) (hd : Vals dvs ds) (hx : Passes CX X E)
    (ha : PA X (e :: es) t) (hdb : (x == ("__debug__" : Str)) = false := by decide) (he : starEach (e :: es) X.env = (false, eval e X.env) :: starEach es X.env := by rfl) (hpl : (backTo pos (starEach es X.env)).any (·.1) = false := by rfl) :
    PE X (.Call (.Name x p) (e :: es) [] pos) (tCall sp dvs E t) := by
  intro pins s σ H Q I h
  refine wpAny_Call_Name_kw (ld_glob I hg hm ?_ hdb)
  refine PySem.W.callWith_K (h₀ := X.base) I.ok.mod.kin hk (thn (ha pos pins s σ H _ I h) fun us s1 ⟨vs, H1, I1, r, q⟩ => ⟨I1.kIn, ?_⟩) he hpl
  exact run_fn F hr hb hd hx I1 r q
/-- o.m(e, ..) -/
theorem pe_meth {pl : Sem Bool} (he : PE X o ta) (c : Cls X.K C) (hm : Meth X.K C m f) (F : FnOk X.prog X.w X.K X.mg X.base CX k f fd ps sp) (hr : Room k X.A) (hb : Binds X.K fd ps ds) (hd : Vals dvs ds) (hx : Passes CX X E) (ha : PA X (e :: es) t)
    (hst : starEach (e :: es) X.env = (false, eval e X.env) :: starEach es X.env := by rfl) (hpl : (backTo pos (starEach es X.env)).any (·.1) = false := by rfl)
    (ht : eval (.Call (.Attribute o m apos) (e :: es) [] pos) X.env = (do
      let ov ← eval o X.env
      standAt apos.atName
      let (f, first) ← holding [ov] (getMethod ov m pl)
      callWith pos f first (backTo pos (starEach (e :: es) X.env)) (backToKw pos (keywordEach [] X.env))) := by rfl) :
    PE X (.Call (.Attribute o m apos) (e :: es) [] pos) (tMeth C m sp dvs E ta t) := by
  intro pins s σ H Q I h
  refine PySem.W.methodCall_KW (pl := pl) (thn (he pins s σ H _ I h) fun u s1 ⟨x, H1, I1, rx, a, dx, fs, ex, ea, l, q⟩ => ?_) ht
  subst ex
  obtain rfl : u = Value.ref a := rx
  refine getmeth_ok I1 ea c hm l ?_
  refine PySem.W.callWith_K (first := [.ref a]) (h₀ := X.base) I.ok.mod.kin hm.kp (thn (ha pos pins s1 σ H1 _ I1 q) fun us s2 ⟨vs, H2, I2, r, q2⟩ => ⟨I2.kIn, ?_⟩) hst hpl
  exact run_fn (us := .ref a :: us) (vs := .ref a :: vs) F hr hb hd hx I2 (.cons rfl r) q2
/-- o.m() -/
theorem pe_meth0 {pl : Sem Bool} (he : PE X o ta) (c : Cls X.K C) (hm : Meth X.K C m f) (F : FnOk X.prog X.w X.K X.mg X.base CX k f fd ps sp) (hr : Room k X.A) (hb : Binds X.K fd ps ds) (hd : Vals dvs ds) (hx : Passes CX X E)
    (ht : eval (.Call (.Attribute o m apos) [] [] pos) X.env = (do
      let ov ← eval o X.env
      standAt apos.atName
      let (f, first) ← holding [ov] (getMethod ov m pl)
      callWith pos f first (backTo pos (starEach [] X.env)) (backToKw pos (keywordEach [] X.env))) := by rfl) :
    PE X (.Call (.Attribute o m apos) [] [] pos) (tMeth C m sp dvs E ta tNil) := by
  intro pins s σ H Q I h
  refine PySem.W.methodCall_KW (pl := pl) (thn (he pins s σ H _ I h) fun u s1 ⟨x, H1, I1, rx, a, dx, fs, ex, ea, l, q⟩ => ?_) ht
  subst ex
  obtain rfl : u = Value.ref a := rx
  refine getmeth_ok I1 ea c hm l ?_
  exact PySem.W.callWith_K0 (first := [.ref a]) I1.kIn hm.kp (run_fn (us := [.ref a]) (vs := [.ref a]) F hr hb hd hx I1 (.cons rfl .nil) q)

/-- what a class must have to be made -/
structure Mk (K : PySem.W.Frag) (C f : Addr) : Prop where
  makes : PySem.W.makesIn K C = true
  init : PySem.W.findIn K (.ref C) "__init__" = some (some (.ref f))
  fn : PySem.W.isFn K (.ref f) = true
  kp : PySem.W.keepIn K (.ref C) = true

theorem run_make {pins : List (Addr × Obj)} {σ : St} {H : Hp} {s : Shared} {Q : VK} {us : List Value} {vs : List V} (M : Mk X.K C f) (F : FnOk X.prog X.w X.K X.mg X.base CX k f fd ps sp) (hr : Room (k + 1) X.A) (hb : Binds X.K fd ps ds) (hd : Vals dvs ds)
    (hx : Passes CX X E) (I : Inv X pins σ H s) (r : Vals vs us)
    (h : ∀ x dx, H x = none → H dx = none → dx ≠ x → sp (.ref x :: (vs ++ dvs)) (upd (upd H dx (.own x)) x (.ins C dx [])) (fun v H2 => v = .non ∧ Q (.ref x) H2) E) :
    wpAny (model X.prog X.w) X.A (call (.ref C) us) (EP X pins σ Q) X.xe s := by
  have hq := h (s.heap.objs.size + 1) s.heap.objs.size (I.hok.fresh (Nat.le_succ _)) (I.hok.fresh (Nat.le_refl _)) (Nat.ne_of_lt (Nat.lt_succ_self _))
  have I2 := Inv.made (C := C) I
  have r2 : Vals (V.ref (s.heap.objs.size + 1) :: (vs ++ dvs)) (Value.ref (s.heap.objs.size + 1) :: (us ++ ds)) := .cons rfl (r.append hd)
  have hl : (Value.ref (s.heap.objs.size + 1) :: us ++ ds).length = ps.length := by
    have e := r2.length
    rw [F.len _ _ _ _ hq] at e
    exact e.symm
  refine wpAny_call (make_map (f := f) I.kIn M.makes M.init (beq_iff_eq.mp M.fn) (codeAny_mono (F.run _ X.stack _ _ ⟨Value.ref (s.heap.objs.size + 1) :: us, []⟩ (Value.ref (s.heap.objs.size + 1) :: (us ++ ds)) _ _ E (hr.make C us [])
    (I2.env0.make C us []) (hb _ (Value.ref (s.heap.objs.size + 1) :: us) I2.kIn hl) r2 hq) fun r s' hq' => ?_))
  cases r with
  | error e => exact hx pins σ _ _ e s' I2 hq'
  | ok fl =>
    cases fl with
    | ret u =>
      obtain ⟨v, H', I3, rv, ev, q3⟩ := I2.after hq'
      subst ev
      exact ⟨rv, ⟨V.ref (s.heap.objs.size + 1), H', I3, rfl, q3⟩⟩
    | next => exact False.elim hq'
    | brk => exact False.elim hq'
    | cont => exact False.elim hq'
theorem pe_make (M : Mk X.K C f) (F : FnOk X.prog X.w X.K X.mg X.base CX k f fd ps sp) (hr : Room (k + 1) X.A) (hg : Gl X x) (hm : X.mg x = some (.ref C)) (hb : Binds X.K fd ps ds) (hd : Vals dvs ds) (hx : Passes CX X E)
    (ha : PA X (e :: es) t) (hdb : (x == ("__debug__" : Str)) = false := by decide) (he : starEach (e :: es) X.env = (false, eval e X.env) :: starEach es X.env := by rfl) (hpl : (backTo pos (starEach es X.env)).any (·.1) = false := by rfl) :
    PE X (.Call (.Name x p) (e :: es) [] pos) (tMake C sp dvs E t) := by
  intro pins s σ H Q I h
  refine wpAny_Call_Name_kw (ld_glob I hg hm ?_ hdb)
  refine PySem.W.callWith_K (h₀ := X.base) I.ok.mod.kin M.kp (thn (ha pos pins s σ H _ I h) fun us s1 ⟨vs, H1, I1, r, q⟩ => ⟨I1.kIn, ?_⟩) he hpl
  exact run_make M F hr hb hd hx I1 r q
end

/-! ### keywords -/
section
variable {X : Cx} {CX : CXT} {k : Nat} {f C : Addr} {fd : FuncData} {ps ks : List Str} {sp : Sp} {E : XK} {x m : Str} {p pos apos kpos : Pos} {e o : Expr} {es : List Expr} {kws : List Keyword} {te ta : TE} {t tk : TA} {nm : Option Str}
variable {g : List Value → List Value → List Value} {gV : List V → List V → List V}
end

/-! ### a def's body keeps its promise -/
/-- names: the parameters first -/
structure FnScope (N P : List Str) (sc : Scope) : Prop where
  kind : sc.kind = .function
  co : sc.isCoroutine = false
  gen : sc.isGenerator = false
  nd : N.Nodup
  pre : N.take P.length = P
  par : ∀ x ∈ P, sc.names.lookup x = some .local ∨ sc.names.lookup x = some .cell
  nofree : ∀ y ∈ sc.names, y.2 ≠ .free

theorem bindL_out {kindOf : Str → Option NameKind} {x : Str} : ∀ {binds : List (Str × Value)} {m : Str → Option Value}, (∀ v, (x, v) ∉ binds) → bindL kindOf binds m x = m x
  | [], _, _ => rfl
  | (n, v) :: r, m, h => by
    unfold bindL
    rw [bindL_out fun w hw => h w (List.mem_cons_of_mem _ hw)]
    split
    · have : x ≠ n := by rintro rfl; exact h v List.mem_cons_self
      simp [this]
    · rfl
theorem bindC_out {kindOf : Str → Option NameKind} {x : Str} : ∀ {binds : List (Str × Value)} {m : Str → Option Value}, (∀ v, (x, v) ∉ binds) → bindC kindOf binds m x = m x
  | [], _, _ => rfl
  | (n, v) :: r, m, h => by
    unfold bindC
    rw [bindC_out fun w hw => h w (List.mem_cons_of_mem _ hw)]
    split
    · rfl
    · have : x ≠ n := by rintro rfl; exact h v List.mem_cons_self
      simp [this]
theorem bindL_get {kindOf : Str → Option NameKind} {x : Str} {v : Value} : ∀ {P : List Str} {vs : List Value} {i : Nat} {m : Str → Option Value}, P.Nodup → P[i]? = some x → vs[i]? = some v → kindOf x = some .local →
    bindL kindOf (P.zip vs) m x = some v
  | [], _, _, _, _, h, _, _ => by simp at h
  | _ :: _, [], _, _, _, _, h, _ => by simp at h
  | p :: P, w :: vs, 0, m, nd, h1, h2, hk => by
    simp at h1 h2; subst h1; subst h2
    show bindL kindOf ((p, w) :: P.zip vs) m p = _
    unfold bindL
    rw [bindL_out fun v hv => (List.nodup_cons.mp nd).1 (List.of_mem_zip hv).1, if_pos hk]
    simp
  | p :: P, w :: vs, i + 1, m, nd, h1, h2, hk => by
    show bindL kindOf ((p, w) :: P.zip vs) m x = _
    unfold bindL
    exact bindL_get (i := i) (List.nodup_cons.mp nd).2 (by simpa using h1) (by simpa using h2) hk
theorem bindC_get {kindOf : Str → Option NameKind} {x : Str} {v : Value} : ∀ {P : List Str} {vs : List Value} {i : Nat} {m : Str → Option Value}, P.Nodup → P[i]? = some x → vs[i]? = some v → kindOf x ≠ some .local →
    bindC kindOf (P.zip vs) m x = some v
  | [], _, _, _, _, h, _, _ => by simp at h
  | _ :: _, [], _, _, _, _, h, _ => by simp at h
  | p :: P, w :: vs, 0, m, nd, h1, h2, hk => by
    simp at h1 h2; subst h1; subst h2
    show bindC kindOf ((p, w) :: P.zip vs) m p = _
    unfold bindC
    rw [bindC_out fun v hv => (List.nodup_cons.mp nd).1 (List.of_mem_zip hv).1, if_neg hk]
    simp
  | p :: P, w :: vs, i + 1, m, nd, h1, h2, hk => by
    show bindC kindOf ((p, w) :: P.zip vs) m x = _
    unfold bindC
    exact bindC_get (i := i) (List.nodup_cons.mp nd).2 (by simpa using h1) (by simpa using h2) hk

/-- the names' values at the entry -/
def start (N : List Str) (vs : List V) : St := vs.map some ++ List.replicate (N.length - vs.length) none

/-- the context of a def's body, at its entry; an exception leaves the frame, then lies as CX says -/
def cxOf (CX : CXT) (P : Program) (w : World) (K : PySem.W.Frag) (mg : Str → Option Value) (base : Heap) (N : List Str) (qual : Str) (scope : Scope) (f : Addr) (cd : Value) (A : Around) (outer : List Env) (s : Shared) (H : Hp) (E : XK) : Cx where
  prog := P
  w := w
  K := K
  mg := mg
  base := base
  A := A.deeper (envOfC qual scope s.heap.objs.size f cd)
  N := N
  s₀ := s
  H₀ := H
  env := envOfC qual scope s.heap.objs.size f cd
  outer := outer
  stack := envOfC qual scope s.heap.objs.size f cd :: outer
  ex := []
  calm := true
  fn := fun _ => true
  pn := []
  xe := fun e s' => wpAny (model P w) (A.deeper (envOfC qual scope s.heap.objs.size f cd)) (leaving (envOfC qual scope s.heap.objs.size f cd) e) (fun _ s'' => CX outer H s E e s'') (fun e' s'' => CX outer H s E e' s'') s'

theorem cell_has {sc : Scope} {n : Nat} {x : Str} (h : sc.names.lookup x = some .cell) : ∃ c, (cellsFrom n sc.names []).lookup x = some c := by
  have q := PySem.W.cellsFrom_some sc.names n [] (.inl h)
  exact Option.isSome_iff_exists.mp q

theorem inv_start {CX : CXT} {P : Program} {w : World} {K : PySem.W.Frag} {mg : Str → Option Value} {base : Heap} {N ps : List Str} {qual : Str} {scope : Scope} {f : Addr} {cd : Value} {A : Around} {outer : List Env} {s s1 : Shared} {H : Hp} {E : XK} {us : List Value} {vs : List V}
    (S : FnScope N ps scope) (hd : A.handled = none) (e0 : Env0 P w K mg base A outer s H) (hl : vs.length = ps.length) (r : Vals vs us)
    (x : InCallC s s.heap.objs.size (bindL (envOfC qual scope s.heap.objs.size f cd).kindOf (ps.zip us) fun _ => none) (cellsFrom (s.heap.objs.size + 1) scope.names []) (bindC (envOfC qual scope s.heap.objs.size f cd).kindOf (ps.zip us) fun _ => none) s1) :
    Inv (cxOf CX P w K mg base N qual scope f cd A outer s H E) [] (start N vs) H s1 := by
  have hpl : ps.length ≤ N.length := by have := congrArg List.length S.pre; rw [List.length_take] at this; omega
  obtain ⟨h1, tk, rfl, hk⟩ := x.done
  have noA : ∀ b : Addr, b ∉ (cxOf CX P w K mg base N qual scope f cd A outer s H E).ex := fun b z => absurd (show b ∈ ([] : List Addr) from z) (by simp)
  refine ⟨⟨e0.mod, S.kind, rfl, rfl, Nat.le_refl _, fun y z c h1 h2 => ?_, fun y hy => ?_, fun y c _ h => ?_, fun _ => hd, Around.frames_deeper e0.frames, .inr ⟨rfl, rfl⟩, fun b z => absurd z (noA b), e0.bs, e0.bsz, fun b _ _ => noA b, fun b z => absurd z (noA b), e0.funs, e0.frf⟩,
    rfl, e0.bare, Un.kept hk, ⟨_, x.toInCall.ns, fun i y v h1 h2 h3 => ?_⟩, fun y c h => ⟨_, x.cell y c h⟩, e0.hok.fresh (Nat.le_refl _), fun y c h => ?_, fun p hp => absurd (show p ∈ ([] : List (Addr × Obj)) from hp) (by simp), e0.hok.kept hk, ?_⟩
  · exact name_of_addr x.apart (PySem.mem_of_lookup h1) (PySem.mem_of_lookup h2)
  · have hy : scope.names.lookup y = some .cell ∨ scope.names.lookup y = some .free := hy
    rcases hy with hy | hy
    · exact cell_has hy
    · exact absurd rfl (S.nofree _ (PySem.mem_of_lookup hy))
  · exact Nat.le_of_lt (x.above y c (PySem.mem_of_lookup h))
  · have hi : i < vs.length := by
      unfold start at h2
      by_cases hi : i < vs.length
      · exact hi
      · rw [List.getElem?_append_right (by simpa using hi)] at h2
        rw [List.getElem?_replicate] at h2
        split at h2 <;> cases h2
    have ha : vs[i]? = some v := by
      unfold start at h2
      rw [List.getElem?_append_left (by simpa using hi), List.getElem?_map] at h2
      cases e : vs[i]? with
      | none => rw [e] at h2; cases h2
      | some a => rw [e] at h2; cases h2; rfl
    obtain ⟨u, hu, rv⟩ := r.get ha
    have hp : ps[i]? = some y := by
      rw [← S.pre, List.getElem?_take_of_lt (by omega)]; exact h1
    have ndP : ps.Nodup := by rw [← S.pre]; exact S.nd.sublist (List.take_sublist _ _)
    refine ⟨u, rv, ?_⟩
    rcases S.par y (List.mem_of_getElem? hp) with k | k
    · exact .inl ⟨k, bindL_get ndP hp hu k⟩
    · obtain ⟨c, e⟩ := cell_has (n := s.heap.objs.size + 1) k
      refine .inr ⟨.inl k, c, e, ?_⟩
      have q := x.cell y c e
      rw [bindC_get ndP hp hu (by show scope.names.lookup y ≠ _; rw [k]; decide)] at q
      exact q
  · exact e0.hok.fresh (Nat.le_of_lt (x.above y c (PySem.mem_of_lookup h)))
  · unfold start
    show _ = N.length
    rw [List.length_append, List.length_map, List.length_replicate]
    omega

/-- THE RULE: a def (or a method) of the text, by its body. The body's reading t is chosen for each entry; it is run at the parameters' values -/
theorem fn_of {CX : CXT} {P : Program} {w : World} {K : PySem.W.Frag} {mg : Str → Option Value} {base : Heap} {k : Nat} {f : Addr} {name qual : Str} {params : Arguments} {body : List Stmt} {scope : Scope} {dV kV doc pm cdv ct oc : Value} {an od : Option Addr}
    {osl : Array (Option Value)} {N ps : List Str} {sp : Sp} (lk : K.lookup f = some ⟨oc, od, .func (PySem.W.fnOf name qual params body scope dV kV doc pm an cdv ct), osl⟩) (hcd : PySem.W.codeIn K cdv qual = true) (S : FnScope N ps scope)
    (len : ∀ vs H Q E, sp vs H Q E → vs.length = ps.length)
    (hbody : ∀ (A : Around) (outer : List Env) (s : Shared) (H : Hp) (vs : List V) (Q : VK) (E : XK), Room k (A.deeper (envOfC qual scope s.heap.objs.size f cdv)) → sp vs H Q E →
      ∃ t, PSs (cxOf CX P w K mg base N qual scope f cdv A outer s H E) body t ∧ t { nx := fun _ H' => Q .non H', rt := Q } (start N vs) H) :
    FnOk P w K mg base CX (k + 1) f (PySem.W.fnOf name qual params body scope dV kV doc pm an cdv ct) ps sp := by
  refine ⟨len, fun A outer s H args us vs Q E hr e0 hb r hsp => ?_⟩
  have hl := len _ _ _ _ hsp
  have KX : K.In s.heap := e0.mod.kin.keeps fun b o e => (e0.bs b o e).1
  have lim : s.heap.NoLimit := e0.mod.nolimit.keeps fun b o e => (e0.bs b o e).1
  have hkind : ∀ y ∈ ps.zip us, scope.names.lookup y.1 = some .local ∨ (scope.names.lookup y.1 = some .cell ∧ ((cellsFrom (s.heap.objs.size + 1) scope.names []).lookup y.1).isSome = true) := fun ⟨n, v⟩ hy => by
    rcases S.par n (List.of_mem_zip hy).1 with q | q
    · exact .inl q
    · exact .inr ⟨q, PySem.W.cellsFrom_some _ _ _ (.inl q)⟩
  refine codeAny_call_function hr.depth (KX _ _ lk) rfl S.co S.gen rfl (PySem.W.codeRec_of KX hcd) (hb _ _ _ _ ?_)
  refine wpAny_newFunctionEnv_cells S.kind hkind fun env he s1 x => ?_
  subst he
  refine ⟨lim.keeps x.toInCall.keep, codeAny_func ?_⟩
  obtain ⟨t, ht, hq⟩ := hbody A outer s H vs Q E (hr.deeper _) hsp
  have I : Inv (cxOf CX P w K mg base N qual scope f cdv A outer s H E) [] (start N vs) H s1 := inv_start S hr.hd e0 hl r x
  refine wpAny_mono (ht [] s1 (start N vs) H _ I hq) (fun fl s' hs => ?_) fun e s' hs => hs
  have fin : ∀ {σ' : St} {H' : Hp} {v : V} {u : Value}, Inv (cxOf CX P w K mg base N qual scope f cdv A outer s H E) [] σ' H' s' → RelV v u → Q v H' → CE outer P w H s Q u s' :=
    fun {σ' H' v u} J rv q => ⟨v, H', J.os, J.bare, J.base, J.hok, rv, q⟩
  cases fl with
  | ret u =>
    obtain ⟨v, σ', H', J, rv, q⟩ := hs
    exact fin J rv q
  | next =>
    obtain ⟨σ', H', J, q⟩ := hs
    exact fin (v := V.non) (u := Value.none) J rfl q
  | brk =>
    obtain ⟨_, _, _, q⟩ := hs
    exact False.elim q
  | cont =>
    obtain ⟨_, _, _, q⟩ := hs
    exact False.elim q
end L2

namespace L2
open PySem PySem.Spec PyProof.Rows
section
variable {X : Cx} {x : Str} {p pos : Pos} {e : Expr} {es : List Expr} {t : TA} {id T : String} {r : List V → Hp → VK → Prop}

def tCB (r : List V → Hp → VK → Prop) (t : TA) : TE := fun σ H Q => t σ H fun vs H1 => r vs H1 Q
/-- f(e, ..), f a built-in function -/
theorem pe_callB (hc : CallR X (.builtin id) r) (hg : Gl X x) (hm : X.mg x = none) (hv : bootBuiltins x = some (.builtin id)) (ha : PA X (e :: es) t) (hn : x ≠ "__name__" := by decide) (hdb : (x == ("__debug__" : Str)) = false := by decide)
    (he : starEach (e :: es) X.env = (false, eval e X.env) :: starEach es X.env := by rfl) (hpl : (backTo pos (starEach es X.env)).any (·.1) = false := by rfl) : PE X (.Call (.Name x p) (e :: es) [] pos) (tCB r t) := by
  intro pins s σ H Q I h
  refine wpAny_Call_Name_kw (ld_blt I hg hm hv ?_ hn hdb)
  exact PyProof.Rows.callWith_builtin1 (thn (ha pos pins s σ H _ I h) fun us s1 ⟨vs, H1, I1, r1, q1⟩ => hc pins s1 σ H1 vs us Q I1 r1 q1) he hpl
/-- T(e, ..), T a built-in type -/
theorem pe_callTy (hc : CallR X (.type T) r) (hg : Gl X x) (hm : X.mg x = none) (hv : bootBuiltins x = some (.type T)) (ha : PA X (e :: es) t) (hn : x ≠ "__name__" := by decide) (hdb : (x == ("__debug__" : Str)) = false := by decide)
    (he : starEach (e :: es) X.env = (false, eval e X.env) :: starEach es X.env := by rfl) (hpl : (backTo pos (starEach es X.env)).any (·.1) = false := by rfl) : PE X (.Call (.Name x p) (e :: es) [] pos) (tCB r t) := by
  intro pins s σ H Q I h
  refine wpAny_Call_Name_kw (ld_blt I hg hm hv ?_ hn hdb)
  exact PyProof.Rows.callWith_type1 (thn (ha pos pins s σ H _ I h) fun us s1 ⟨vs, H1, I1, r1, q1⟩ => hc pins s1 σ H1 vs us Q I1 r1 q1) he hpl
end
end L2

namespace HT
open PySem PyProof.Rows

section
open PySem.SeqAt
open PySem.AutoSeq1 (wpAny_loadPart')
open PySem.MeetsSeq PySem.MeetsSeq2 PySem.MeetsSeq3

end

section
variable {prog : Program} {w : World} {A : Around} {E : Value → Shared → Prop} {s : Shared}

/-! ### t[a:b], not the whole -/
/-- a slice's bound as a place among n (d where it is left out) -/
def sIx (n d : Nat) : Option Int → Nat
  | none => d
  | some v => if v < 0 then (v + (n : Int)).toNat else min v.toNat n
theorem sIx_none (n d : Nat) : sIx n d none = d := rfl
theorem sIx_nat (n d k : Nat) : sIx n d (some (k : Int)) = min k n := by
  show (if (k : Int) < 0 then ((k : Int) + (n : Int)).toNat else min (k : Int).toNat n) = min k n
  rw [if_neg (by omega), Int.toNat_natCast]
end
end HT

namespace L2
open PySem PySem.Spec PyProof.Rows

/-! ### the parts of a slice -/
abbrev TO := St → Hp → (Option Int → Hp → Prop) → Prop
/-- a slice's part (left out, or an int) -/
def PO (X : Cx) (e : Option Expr) (t : TO) : Prop :=
  ∀ (pins : List (Addr × Obj)) (s : Shared) (σ : St) (H : Hp) (Q : Option Int → Hp → Prop), Inv X pins σ H s → t σ H Q →
    wpAny (model X.prog X.w) X.A (evalPart e X.env) (fun u s' => ∃ o H', Inv X pins σ H' s' ∧ IsPart u o ∧ Q o H') X.xe s
def tNoPart : TO := fun _ H Q => Q none H
def tPart (t : TE) : TO := fun σ H Q => t σ H fun x H1 => ∃ i, x = .int i ∧ Q (some i) H1

section
variable {X : Cx} {e : Expr} {te : TE} {lo hi : Option Expr} {tl th : TO} {pos p2 : Pos}

theorem po_none : PO X none tNoPart := by
  intro pins s σ H Q I h
  rw [evalPart_none]
  exact wpAny_pure ⟨none, H, I, .none, h⟩
theorem po_some (h : PE X e te) : PO X (some e) (tPart te) := by
  intro pins s σ H Q I hw
  rw [evalPart_some]
  refine thn (h pins s σ H _ I hw) fun u s1 ⟨x, H1, I1, r1, q1⟩ => ?_
  obtain ⟨i, rfl, q⟩ := q1
  obtain ⟨t, rfl⟩ := r1
  exact ⟨some i, H1, I1, .int i t, q⟩

/-- what a slice of a value is, by values: the slice object stands at sl -/
def SlR (X : Cx) (r : V → Option Int → Option Int → Hp → VK → Prop) : Prop :=
  ∀ (pins : List (Addr × Obj)) (s : Shared) (σ : St) (H : Hp) (x : V) (v vl vu : Value) (lo hi : Option Int) (sl : Addr) (Q : VK), Inv X pins σ H s → RelV x v → s.heap.IsSliceOf sl vl vu .none → IsPart vl lo → IsPart vu hi → r x lo hi H Q →
    ∃ T id, typeLookup (.type T) "__getitem__" = pure (some (.builtin id)) ∧ s.TypeIs v T ∧ wpAny (model X.prog X.w) X.A (getItem v (.ref sl)) (EP X pins σ Q) X.xe s
def tSl (r : V → Option Int → Option Int → Hp → VK → Prop) (te : TE) (tl th : TO) : TE := fun σ H Q => te σ H fun x H1 => tl σ H1 fun l H2 => th σ H2 fun u H3 => r x l u H3 Q
/-- a[lo:hi], any a -/
theorem pe_slice {r : V → Option Int → Option Int → Hp → VK → Prop} (hr : SlR X r) (he : PE X e te) (hl : PO X lo tl) (hu : PO X hi th) : PE X (.Subscript e (.Slice lo hi none p2) pos) (tSl r te tl th) := by
  intro pins s σ H Q I h
  refine Subscript_ (thn (he pins s σ H _ I h) fun v s1 ⟨x, H1, I1, r1, q1⟩ => ?_)
  refine wpAny_Slice (thn (hl pins s1 σ H1 _ I1 q1) fun vl s2 ⟨l, H2, I2, pl, q2⟩ => thn (hu pins s2 σ H2 _ I2 q2) fun vu s3 ⟨u, H3, I3, pu, q3⟩ => ?_)
  rw [evalPart_none]
  refine wpAny_pure ?_
  have I4 : Inv X pins σ H3 { s3 with heap := s3.heap.push { cls := .type "slice", data := .fields #[vl, vu, .none] } } := I3.kept (t' := s3.toks) fun b ob q => Heap.get?_push_of_some _ q
  obtain ⟨T, id, hT, ht, hg⟩ := hr pins { s3 with heap := s3.heap.push { cls := .type "slice", data := .fields #[vl, vu, .none] } } σ H3 x v vl vu l u s3.heap.objs.size Q I4 r1 (Heap.IsSliceOf.new ..) pl pu q3
  show wpAny (model X.prog X.w) X.A (subscriptTail e (.Slice lo hi none p2) v (.ref s3.heap.objs.size)) (EP X pins σ Q) X.xe { s3 with heap := s3.heap.push { cls := .type "slice", data := .fields #[vl, vu, .none] } }
  exact tail_any (ops := [.ref s3.heap.objs.size, v]) ht hT hg (by with_unfolding_all rfl)

/-- the items of xs[lo:hi] -/
def cutV (xs : List V) (lo hi : Option Int) : List V := (xs.drop (HT.sIx xs.length 0 lo)).take (HT.sIx xs.length xs.length hi - HT.sIx xs.length 0 lo)
theorem cutV_length (xs : List V) (lo hi : Option Int) : (cutV xs lo hi).length ≤ xs.length := by
  unfold cutV
  rw [List.length_take, List.length_drop]
  omega
/-! ### t < u, t + u -/
end
end L2

namespace L2
open PySem PySem.Spec PyProof.Rows

/-! ### places -/
/-- the place that an index of any sign means -/
def ixN (n : Nat) (i : Int) : Option Nat := if 0 ≤ i then (if i < n then some i.toNat else none) else if -(n : Int) ≤ i then some (i + n).toNat else none
def atI {α : Type} (xs : List α) (i : Int) : Option α := (ixN xs.length i).bind fun j => xs[j]?
theorem ixN_seq {n : Nat} {i : Int} {j : Nat} (h : ixN n i = some j) : seqIndex? i n = some j ∧ j < n ∧ -(n : Int) ≤ i ∧ i < n := by
  unfold ixN at h
  by_cases h0 : 0 ≤ i
  · rw [if_pos h0] at h
    by_cases h1 : i < n
    · rw [if_pos h1] at h
      have e : i.toNat = j := Option.some.inj h
      exact ⟨by rw [seqIndex_of h0 h1, e], by omega, by omega, h1⟩
    · rw [if_neg h1] at h; cases h
  · rw [if_neg h0] at h
    by_cases h1 : -(n : Int) ≤ i
    · rw [if_pos h1] at h
      have e : (i + n).toNat = j := Option.some.inj h
      exact ⟨by rw [seqIndex_neg (by omega) h1, e], by omega, h1, by omega⟩
    · rw [if_neg h1] at h; cases h
theorem atI_get {α : Type} {xs : List α} {i : Int} {v : α} (h : atI xs i = some v) : ∃ j, seqIndex? i xs.length = some j ∧ xs[j]? = some v ∧ j < xs.length ∧ -(xs.length : Int) ≤ i ∧ i < xs.length := by
  unfold atI at h
  cases e : ixN xs.length i with
  | none => rw [e] at h; cases h
  | some j =>
    rw [e] at h
    obtain ⟨h1, h2, h3, h4⟩ := ixN_seq e
    exact ⟨j, h1, h, h2, h3, h4⟩
theorem atI_nat {α : Type} {xs : List α} {j : Nat} {v : α} (h : xs[j]? = some v) : atI xs (j : Int) = some v := by
  have hj : j < xs.length := (List.getElem?_eq_some_iff.mp h).1
  have e : ixN xs.length (j : Int) = some j := by
    unfold ixN
    rw [if_pos (by omega), if_pos (by omega)]; simp
  unfold atI; rw [e]; exact h
/-! ### what may be subscripted -/
/-- what stands as an index of a plain subscript -/
def PlainIx (b : Expr) : Prop := ∀ o i, subscripted b false o i = operate [o, i] (getItem o i)
/-- a subscript by values -/
def IxR (X : Cx) (r : R2) : Prop :=
  ∀ (value slice : Expr) (pins : List (Addr × Obj)) (s : Shared) (σ : St) (H : Hp) (x y : V) (v u : Value) (Q : VK), Inv X pins σ H s → RelV x v → RelV y u → r x y H Q →
    subscripted slice false v u = operate [v, u] (getItem v u) → wpAny (model X.prog X.w) X.A (subscriptTail value slice v u) (EP X pins σ Q) X.xe s
/-- a call of a builtin's method by values: the receiver, the arguments -/
def MtR (X : Cx) (id : String) (r : V → List V → Hp → VK → Prop) : Prop :=
  ∀ (pins : List (Addr × Obj)) (s : Shared) (σ : St) (H : Hp) (x : V) (xs : List V) (v : Value) (us : List Value) (Q : VK), Inv X pins σ H s → RelV x v → Vals xs us → r x xs H Q →
    wpAny (model X.prog X.w) X.A (call (.builtin id) (v :: us)) (EP X pins σ Q) X.xe s
section
variable {X : Cx} {a b : Expr} {ta tb : TE} {pos : Pos}
/-- a[b] -/
theorem pe_ix {r : R2} (hr : IxR X r) (ha : PE X a ta) (hb : PE X b tb) (hs : PlainIx b) : PE X (.Subscript a b pos) (tOp r ta tb) := by
  intro pins s σ H Q I h
  exact Subscript_ (binT ha hb I h fun v u s2 x y H2 I2 rx ry q => hr a b pins s2 σ H2 x y v u Q I2 rx ry q (hs _ _))

def rIxL (K : PySem.W.Frag) : R2 := fun x y H Q => ∃ p xs i v, x = .ref p ∧ y = .int i ∧ SqL K H p xs ∧ atI xs i = some v ∧ Q v H
def rIxT (K : PySem.W.Frag) : R2 := fun x y H Q => ∃ p xs i v, x = .ref p ∧ y = .int i ∧ SqT K H p xs ∧ atI xs i = some v ∧ Q v H
def rIxS : R2 := fun x y H Q => ∃ z i c, x = .str z ∧ y = .int i ∧ z.length ≤ sizeLine ∧ atI z.cps.toList i = some c ∧ Q (.str ⟨#[c]⟩) H
theorem ix_list : IxR X (rIxL X.K) := by
  intro value slice pins s σ H x y v u Q I rx ry h hs
  obtain ⟨p, xs, i, z, rfl, rfl, hq, he, q⟩ := h
  cases rx
  obtain ⟨t, rfl⟩ := ry
  obtain ⟨its, r, pl, hz⟩ := I.list hq
  obtain ⟨j, h1, h2, h3, h4, h5⟩ := atI_get he
  obtain ⟨w, ew, rw'⟩ := r.get h2
  have hl := r.length
  have hn := line63
  have fin : EP X pins σ Q w s := ⟨z, H, I, rw', q⟩
  by_cases h0 : 0 ≤ i
  · have hj : i.toNat = j := by
      rw [seqIndex_of h0 h5] at h1
      exact Option.some.inj h1
    exact item_listR pl.isList h0 (by omega) (by rw [hj]; simpa using ew) fin hs
  · have hj : (i + (its.toArray.size : Int)).toNat = j := by
      rw [seqIndex_neg (by omega) h4] at h1
      rw [List.size_toArray, ← hl]
      exact Option.some.inj h1
    exact subscriptTail_builtinR (x := w) pl.isList.typeIs slot_list_getitem.lookup
      (wpAny_getItem_list_neg (Q := fun r s' => r = w ∧ EP X pins σ Q r s') pl.isList (by omega) (by rw [List.size_toArray] <;> omega) (by omega) (by rw [hj]; simpa using ew) ⟨rfl, fin⟩) hs
theorem ix_tup : IxR X (rIxT X.K) := by
  intro value slice pins s σ H x y v u Q I rx ry h hs
  obtain ⟨p, xs, i, z, rfl, rfl, hq, he, q⟩ := h
  cases rx
  obtain ⟨t, rfl⟩ := ry
  obtain ⟨its, r, pl, hz⟩ := I.tuple hq
  obtain ⟨j, h1, h2, h3, h4, h5⟩ := atI_get he
  obtain ⟨w, ew, rw'⟩ := r.get h2
  have hl := r.length
  have hn := line63
  have fin : EP X pins σ Q w s := ⟨z, H, I, rw', q⟩
  exact subscriptTail_builtinR (x := w) pl.typeIs slot_tuple_getitem.lookup
    (getItem_tuple (j := j) (Q := fun r s' => r = w ∧ EP X pins σ Q r s') pl (by omega) (by omega) (by rw [List.size_toArray, ← hl]; exact h1) (by simpa using ew) ⟨rfl, fin⟩) hs
theorem ix_str : IxR X rIxS := by
  intro value slice pins s σ H x y v u Q I rx ry h hs
  obtain ⟨z, i, c, rfl, rfl, hz, he, q⟩ := h
  obtain ⟨t, rfl⟩ := rx
  obtain ⟨t', rfl⟩ := ry
  obtain ⟨j, h1, h2, h3, h4, h5⟩ := atI_get he
  have hl : z.cps.toList.length = z.length := by simp [Str.length]
  rw [hl] at h1 h4 h5
  have hn := line63
  exact tail_any (typeIs_str s z t) slot_str_getitem.lookup (getItem_str (c := c) (by
    have e1 : decide (i < -(2 ^ 63 : Int)) = false := decide_eq_false (by omega)
    have e2 : decide (i ≥ 2 ^ 63) = false := decide_eq_false (by omega)
    rw [e1, e2, Bool.or_false]) (by rw [h1]; simpa using h2) ⟨.str ⟨#[c]⟩, H, I.tok _, ⟨_, rfl⟩, q⟩) hs
/-! ### xs[i] = v, any sign -/
/-- the list's object behind a store -/
theorem mapSeq_set (its : List Value) (n j : Nat) (u : Value) : Obj.mapSeq (·.setIfInBounds j u) { cls := .type "list", data := .seq its.toArray n } = { cls := .type "list", data := .seq (its.set j u).toArray n } := by
  simp [Obj.mapSeq]
theorem Inv.lst {pins : List (Addr × Obj)} {σ : St} {H : Hp} {s : Shared} {p : Addr} {xs : List V} (I : Inv X pins σ H s) (h : H p = some (.lst xs)) :
    ∃ (its : List Value) (n : Nat), Vals xs its ∧ s.heap.get? p = some { cls := .type "list", data := .seq its.toArray n } ∧ xs.length ≤ sizeLine := by
  obtain ⟨z, its, n, r, e⟩ := I.hok p _ h
  exact ⟨its, n, r, e, z⟩
/-- the list at p is written by an update of its object -/
theorem Inv.lstUpd {pins : List (Addr × Obj)} {σ : St} {H : Hp} {s : Shared} {p : Addr} {xs ys : List V} {its its' : List Value} {n n' : Nat} {f : Obj → Obj} (I : Inv X pins σ H s) (h : H p = some (.lst xs))
    (ho : s.heap.get? p = some { cls := .type "list", data := .seq its.toArray n }) (hf : f { cls := .type "list", data := .seq its.toArray n } = { cls := .type "list", data := .seq its'.toArray n' }) (r : Vals ys its') (hz : ys.length ≤ sizeLine) (t : Nat) :
    Inv X pins σ (upd H p (.lst ys)) { s with heap := s.heap.update p f, toks := t } := by
  have e : (s.heap.update p f).get? p = some { cls := .type "list", data := .seq its'.toArray n' } := by
    rw [Heap.get?_update_self f ho (by rw [hf] <;> rfl), hf]
  refine I.write (x := p) (e := p) (by rw [h]; trivial) (.inl rfl) (fun b u hb q => (Heap.get?_update_other _ _ (Ne.symm hb)).trans q) ⟨_, e⟩ ?_
  exact ⟨hz, its', n', r, e⟩
def rSetL : V → V → V → Hp → (Hp → Prop) → Prop := fun o i v H Q => ∃ p xs k j, o = .ref p ∧ i = .int k ∧ H p = some (.lst xs) ∧ ixN xs.length k = some j ∧ Q (upd H p (.lst (xs.set j v)))
theorem set_list : PSet X rSetL := by
  intro pins s σ H o i v ov iv u Q I ro ri rv h
  obtain ⟨p, xs, k, j, rfl, rfl, hp, hj, q⟩ := h
  cases ro
  obtain ⟨t, rfl⟩ := ri
  obtain ⟨its, n, r, ho, hz⟩ := I.lst hp
  obtain ⟨h1, h2, h3, h4⟩ := ixN_seq hj
  have hl := r.length
  have hn := line63
  have I' : Inv X pins σ (upd H p (.lst (xs.set j v))) { s with heap := s.heap.update p (Obj.mapSeq (·.setIfInBounds j u)) } :=
    I.lstUpd hp ho (mapSeq_set its n j u) (r.set rv j) (by rw [List.length_set]; exact hz) s.toks
  by_cases h0 : 0 ≤ k
  · have hk : k.toNat = j := by
      rw [seqIndex_of h0 h4] at h1
      exact Option.some.inj h1
    exact PySem.W.ki_setAt ho h0 (by omega) (by rw [List.size_toArray, ← hl]; exact h4) (by rw [hk]; exact ⟨_, I', q⟩)
  · have hk : (k + (its.toArray.size : Int)).toNat = j := by
      rw [seqIndex_neg (by omega) h3] at h1
      rw [List.size_toArray, ← hl]
      exact Option.some.inj h1
    exact PySem.W.ki_setBack ho (by omega) (by rw [List.size_toArray, ← hl]; exact h3) (by omega) (by rw [hk]; exact ⟨_, I', q⟩)

/-! ### slices -/
theorem slice_bounds (lo hi : Option Int) (n : Nat) : (sliceBounds lo hi none n).1 = ((HT.sIx n 0 lo : Nat) : Int) ∧ (sliceBounds lo hi none n).2.1 = ((HT.sIx n n hi : Nat) : Int) ∧ (sliceBounds lo hi none n).2.2 = 1 := by
  refine ⟨?_, ?_, rfl⟩
  · cases lo with
    | none => simp [sliceBounds, HT.sIx]
    | some i =>
      simp only [sliceBounds, HT.sIx, Option.getD_none, show (1 : Int) > 0 by decide, if_true]
      by_cases h : i < 0
      · simp only [h, if_true] <;> omega
      · simp only [h, if_false] <;> omega
  · cases hi with
    | none => simp [sliceBounds, HT.sIx]
    | some i =>
      simp only [sliceBounds, HT.sIx, Option.getD_none, show (1 : Int) > 0 by decide, if_true]
      by_cases h : i < 0
      · simp only [h, if_true] <;> omega
      · simp only [h, if_false] <;> omega
theorem slicePick_cut (its : List Value) (lo hi : Option Int) : slicePick its.toArray lo hi none = ((its.drop (HT.sIx its.length 0 lo)).take (HT.sIx its.length its.length hi - HT.sIx its.length 0 lo)).toArray := by
  obtain ⟨h1, h2, h3⟩ := slice_bounds lo hi its.toArray.size
  unfold slicePick
  rw [h1, h2, h3]
  simp only [sliceRange_one, pick_run, List.size_toArray] <;> rfl
/-- xs[lo:hi] of a list: a new list -/
def rSlL (K : PySem.W.Frag) : V → Option Int → Option Int → Hp → VK → Prop := fun x lo hi H Q => ∃ a xs, x = .ref a ∧ SqL K H a xs ∧ ∀ p, H p = none → Q (.ref p) (upd H p (.lst (cutV xs lo hi)))
theorem sl_list : SlR X (rSlL X.K) := by
  intro pins s σ H x v vl vu lo hi sl Q I rx hs pl pu h
  obtain ⟨a, xs, rfl, hx, q⟩ := h
  cases rx
  obtain ⟨its, r, ht, hz⟩ := I.list hx
  have hlen := r.length
  refine ⟨"list", _, slot_list_getitem.lookup, ht.isList.typeIs, ?_⟩
  refine wpAny_getItem_list_slice ht.isList hs pl pu .none (by simp) ?_ (by rw [List.size_toArray] <;> omega)
  rw [slicePick_cut, ← hlen]
  refine ⟨.ref s.heap.objs.size, _, I.laid (t' := s.toks) (o := .lst (cutV xs lo hi)) (fun b ob q => Heap.get?_push_of_some _ q) (Nat.le_refl _) ?_, rfl, q _ (I.hok.fresh (Nat.le_refl _))⟩
  exact ⟨Nat.le_trans (cutV_length xs lo hi) hz, _, 0, (r.drop (HT.sIx xs.length 0 lo)).take (HT.sIx xs.length xs.length hi - HT.sIx xs.length 0 lo), Heap.get?_push_size _ rfl⟩

/-! ### in, not in: flat items -/
def flatV : V → Bool
  | .non => true
  | .bl _ => true
  | .int _ => true
  | .str _ => true
  | _ => false
/-- == of flat values -/
def eqV : V → V → Bool
  | .non, .non => true
  | .bl a, .bl b => a == b
  | .bl a, .int b => (if a then 1 else 0) == b
  | .int a, .bl b => a == (if b then 1 else 0)
  | .int a, .int b => a == b
  | .str a, .str b => a == b
  | _, _ => false
theorem eqAt_V {A : Around} {s : Shared} {y x : V} {u v : Value} (ry : RelV y u) (rx : RelV x v) (fy : flatV y = true) (fx : flatV x = true) : SeqAt.EqAt A s u v (eqV y x) := by
  cases y with
  | non =>
    cases ry
    cases x with
    | non => cases rx; exact SeqAt.EqAt.same _
    | bl b => cases rx; exact SeqAt.EqAt.none_bool b
    | int b => obtain ⟨t, rfl⟩ := rx; exact SeqAt.EqAt.none_int b t
    | str b => obtain ⟨t, rfl⟩ := rx; exact SeqAt.EqAt.none_str b t
    | _ => exact absurd (show false = true from fx) Bool.false_ne_true
  | bl a =>
    cases ry
    cases x with
    | non => cases rx; exact SeqAt.EqAt.bool_none a
    | bl b => cases rx; exact SeqAt.EqAt.bool_bool a b
    | int b => obtain ⟨t, rfl⟩ := rx; exact SeqAt.EqAt.bool_int a b t
    | str b => obtain ⟨t, rfl⟩ := rx; exact SeqAt.EqAt.bool_str a b t
    | _ => exact absurd (show false = true from fx) Bool.false_ne_true
  | int a =>
    obtain ⟨t', rfl⟩ := ry
    cases x with
    | non => cases rx; exact SeqAt.EqAt.int_none a t'
    | bl b => cases rx; exact SeqAt.EqAt.int_bool a t' b
    | int b => obtain ⟨t, rfl⟩ := rx; exact SeqAt.EqAt.int_int a t' b t
    | str b => obtain ⟨t, rfl⟩ := rx; exact SeqAt.EqAt.int_str a t' b t
    | _ => exact absurd (show false = true from fx) Bool.false_ne_true
  | str a =>
    obtain ⟨t', rfl⟩ := ry
    cases x with
    | non => cases rx; exact SeqAt.EqAt.str_none a t'
    | bl b => cases rx; exact SeqAt.EqAt.str_bool a t' b
    | int b => obtain ⟨t, rfl⟩ := rx; exact SeqAt.EqAt.str_int a t' b t
    | str b => obtain ⟨t, rfl⟩ := rx; exact SeqAt.EqAt.str_str a t' b t
    | _ => exact absurd (show false = true from fx) Bool.false_ne_true
  | _ => exact absurd (show false = true from fy) Bool.false_ne_true
/-- the items' answers, read off the values (a value's own answer does not lean on its token) -/
def eqU (x : V) (u : Value) : Bool := match u with
  | .none => eqV .non x
  | .bool b => eqV (.bl b) x
  | .int i _ => eqV (.int i) x
  | .str z _ => eqV (.str z) x
  | _ => false
theorem eqU_of {x y : V} {u : Value} (r : RelV y u) (f : flatV y = true) : eqU x u = eqV y x := by
  cases y with
  | non => cases r; rfl
  | bl b => cases r; rfl
  | int i => obtain ⟨t, rfl⟩ := r; rfl
  | str z => obtain ⟨t, rfl⟩ := r; rfl
  | _ => exact absurd (show false = true from f) Bool.false_ne_true
theorem any_eqU {x : V} : ∀ {xs : List V} {us : List Value}, Vals xs us → xs.all flatV = true → us.any (eqU x) = xs.any fun y => eqV y x
  | _, _, .nil, _ => rfl
  | y :: xs, u :: us, .cons r t, f => by
    rw [List.all_cons, Bool.and_eq_true] at f
    rw [List.any_cons, List.any_cons, eqU_of r f.1, any_eqU t f.2]
theorem mem_eqAt {A : Around} {s : Shared} {x : V} {v : Value} (rx : RelV x v) (fx : flatV x = true) : ∀ {xs : List V} {us : List Value}, Vals xs us → xs.all flatV = true → ∀ u ∈ us, SeqAt.EqAt A s u v (eqU x u)
  | _, _, .nil, _ => fun u hu => by cases hu
  | y :: xs, u :: us, .cons r t, f => fun u' hu => by
    rw [List.all_cons, Bool.and_eq_true] at f
    rcases List.mem_cons.mp hu with rfl | hu
    · rw [eqU_of r f.1]; exact eqAt_V r rx f.1 fx
    · exact mem_eqAt rx fx t f.2 u' hu
def inV (x : V) (xs : List V) : Bool := xs.any fun y => eqV y x
/-- x in a list or tuple of flat items -/
def rIn (K : PySem.W.Frag) (neg : Bool) : R2 := fun x y H Q => ∃ p xs, y = .ref p ∧ (SqL K H p xs ∨ SqT K H p xs) ∧ flatV x = true ∧ xs.all flatV = true ∧ Q (.bl (if neg then !inV x xs else inV x xs)) H
theorem op_in_seq : OpR X (compareOp .In) (rIn X.K false) := by
  intro pins s σ H x y v u Q I rx ry h
  obtain ⟨p, xs, rfl, hq, fx, fs, q⟩ := h
  cases ry
  rcases hq with hq | hq
  · obtain ⟨its, r, pl, hz⟩ := I.list hq
    refine SeqAt.in_listAt (eqU x) pl.isList (fun w hw => mem_eqAt rx fx r fs w (by simpa using hw)) ⟨.bl _, H, I, rfl, ?_⟩
    rw [show its.toArray.any (eqU x) = its.any (eqU x) by simp, any_eqU r fs]
    exact q
  · obtain ⟨its, r, pl, hz⟩ := I.tuple hq
    refine SeqAt.in_tupleAt (eqU x) pl (fun w hw => mem_eqAt rx fx r fs w (by simpa using hw)) ⟨.bl _, H, I, rfl, ?_⟩
    rw [show its.toArray.any (eqU x) = its.any (eqU x) by simp, any_eqU r fs]
    exact q
/-! ### len, list(x), tuple(x) of any list or tuple that is read -/
theorem call_len_seq : CallR X (.builtin "len") (fun xs H Q => ∃ p ys, xs = [.ref p] ∧ (SqL X.K H p ys ∨ SqT X.K H p ys) ∧ Q (.int ys.length) H) := by
  intro pins s σ H xs us Q I r h
  obtain ⟨p, ys, rfl, hq, q⟩ := h
  obtain ⟨u, rfl, rx⟩ := vals1 r
  cases rx
  have hn := line63
  rcases hq with hq | hq
  · obtain ⟨its, r', pl, hz⟩ := I.list hq
    have hlen := r'.length
    exact Calls.call_len_list pl.isList (by simp only [List.size_toArray] <;> omega) ⟨.int ys.length, H, I.tok _, ⟨s.toks + 1, by rw [List.size_toArray, hlen]⟩, q⟩
  · obtain ⟨its, r', pl, hz⟩ := I.tuple hq
    have hlen := r'.length
    exact len_tuple pl (by simp only [List.size_toArray] <;> omega) ⟨.int ys.length, H, I.tok _, ⟨s.toks + 1, by rw [List.size_toArray, hlen]⟩, q⟩
theorem call_list_of : CallR X (.type "list") (fun xs H Q => ∃ p ys, xs = [.ref p] ∧ (SqL X.K H p ys ∨ SqT X.K H p ys) ∧ ∀ l, H l = none → Q (.ref l) (upd H l (.lst ys))) := by
  intro pins s σ H xs us Q I r h
  obtain ⟨p, ys, rfl, hq, q⟩ := h
  obtain ⟨u, rfl, rx⟩ := vals1 r
  cases rx
  have fin : ∀ (its : List Value), Vals ys its → ys.length ≤ sizeLine → ∀ (h' : Heap) (c' : Nat), (∀ b o', s.heap.get? b = some o' → h'.get? b = some o') →
      h'.get? s.heap.objs.size = some { cls := .type "list", dict := none, data := .seq its.toArray c', slots := #[] } → EP X pins σ Q (.ref s.heap.objs.size) { s with heap := h' } := fun its r' hz h' c' kp e =>
    ⟨.ref s.heap.objs.size, _, I.laid (t' := s.toks) kp (Nat.le_refl _) (show ObjOk X.prog X.w _ h' _ (.lst ys) from ⟨hz, its, c', r', e⟩), rfl, q _ (I.hok.fresh (Nat.le_refl _))⟩
  rcases hq with hq | hq
  · obtain ⟨its, r', pl, hz⟩ := I.list hq
    have hlen := r'.length
    obtain ⟨o, ho, hc, n, hd⟩ := pl.isList
    exact call_list_seq p (.inl rfl) ho hc hd (fun h' c' kp e => fin its r' hz h' c' kp e) (by simp only [List.size_toArray] <;> omega)
  · obtain ⟨its, r', pl, hz⟩ := I.tuple hq
    have hlen := r'.length
    obtain ⟨o, ho, hc, n, hd⟩ := pl
    exact call_list_seq p (.inr rfl) ho hc hd (fun h' c' kp e => fin its r' hz h' c' kp e) (by simp only [List.size_toArray] <;> omega)
/-! ### the call of a builtin's method: o.m(..) -/
/-- the value is of that builtin type -/
def tyV (K : PySem.W.Frag) (T : String) (x : V) (H : Hp) : Prop := match x with
  | .str _ => T = "str"
  | .int _ => T = "int"
  | .ref p => (T = "list" ∧ ∃ xs, SqL K H p xs) ∨ (T = "tuple" ∧ ∃ o, K.lookup p = some o ∧ o.cls = .type "tuple" ∧ o.dict = none) ∨
      (T = "dict" ∧ ((∃ kvs, H p = some (.dK kvs)) ∨ ∃ kvs, H p = some (.dT kvs))) ∨ (T = "set" ∧ ∃ S n, H p = some (.set S n))
  | _ => False
theorem tyV_is {pins : List (Addr × Obj)} {σ : St} {H : Hp} {s : Shared} {T : String} {x : V} {v : Value} (I : Inv X pins σ H s) (r : RelV x v) (ty : tyV X.K T x H) :
    s.TypeIs v T ∧ ∀ a, v = .ref a → ∃ ob, s.heap.get? a = some ob ∧ ob.dict = none := by
  cases x with
  | str z =>
    obtain ⟨t, rfl⟩ := r
    cases (show T = "str" from ty)
    exact ⟨typeIs_str s z t, fun _ e => nomatch e⟩
  | int i =>
    obtain ⟨t, rfl⟩ := r
    cases (show T = "int" from ty)
    exact ⟨typeIs_int s i t, fun _ e => nomatch e⟩
  | ref p =>
    cases r
    rcases ty with ⟨rfl, xs, hq⟩ | ⟨rfl, o, hk, hc, hd⟩ | ⟨rfl, hk⟩ | ⟨rfl, S, n, hk⟩
    · obtain ⟨its, _, pl, _⟩ := I.list hq
      refine ⟨pl.isList.typeIs, fun a e => ?_⟩
      cases e
      obtain ⟨o, n, e, c, hd, _⟩ := pl
      exact ⟨o, e, hd⟩
    · refine ⟨⟨o, I.kIn p o hk, hc⟩, fun a e => ?_⟩
      cases e
      exact ⟨o, I.kIn _ o hk, hd⟩
    · have z : ∃ o, s.heap.get? p = some o ∧ o.ExactDict := by
        rcases hk with ⟨kvs, hk⟩ | ⟨kvs, hk⟩
        · obtain ⟨_, _, _, _, o, _, _, e, ex, _⟩ := I.hok p _ hk
          exact ⟨o, e, ex⟩
        · obtain ⟨_, _, _, _, o, _, _, e, ex, _⟩ := I.hok p _ hk
          exact ⟨o, e, ex⟩
      obtain ⟨o, e, ex⟩ := z
      refine ⟨⟨o, e, ex.1⟩, fun a e2 => ?_⟩
      cases e2
      exact ⟨o, e, ex.2.1⟩
    · obtain ⟨o, _, _, _, e, ex, _⟩ := I.hok p _ hk
      refine ⟨⟨o, e, ex.1⟩, fun a e2 => ?_⟩
      cases e2
      exact ⟨o, e, ex.2.1⟩
  | _ => exact False.elim ty
def tBM (K : PySem.W.Frag) (T : String) (r : V → List V → Hp → VK → Prop) (to : TE) (t : TA) : TE := fun σ H Q => to σ H fun x H1 => tyV K T x H1 ∧ t σ H1 fun xs H2 => r x xs H2 Q
variable {o e : Expr} {es : List Expr} {to : TE} {t : TA} {name : Str} {apos cpos : Pos} {T id : String} {r : V → List V → Hp → VK → Prop}
theorem pe_bm (pa : PlainAttrs T) (slot : Slot T name id) (hty : typeOf (.builtin id) = pure (.type "method_descriptor")) (hm : MtR X id r) (ho : PE X o to) (ha : PA X (e :: es) t)
    (hbase : attributeBase o name X.env (eval o X.env) = eval o X.env := by rfl)
    (hfew : ((backTo cpos (starEach (e :: es) X.env)).all (fun x => !x.1) && (backToKw cpos (keywordEach [] X.env)).all (fun x => x.1.isSome)
      && decide ((e :: es).length + ([] : List Keyword).length + (if ([] : List Keyword).isEmpty then 0 else 1) < 30)) = true := by rfl)
    (hline : (apos.endLine == cpos.line) = true := by rfl) (hs : starEach (e :: es) X.env = (false, eval e X.env) :: starEach es X.env := by rfl) (hplain : (backTo cpos (starEach es X.env)).any (·.1) = false := by rfl) :
    PE X (.Call (.Attribute o name apos) (e :: es) [] cpos) (tBM X.K T r to t) := by
  intro pins s σ H Q I h
  refine wpAny_Call_method_late hbase hfew hline rfl (thn (ho pins s σ H _ I h) fun v s1 ⟨x, H1, I1, r1, ty, q1⟩ => ?_)
  obtain ⟨h1, h2⟩ := tyV_is I1 r1 ty
  refine ⟨T, id, pa, slot, hty, h1, h2, ?_⟩
  have hA := ha cpos pins s1 σ H1 _ I1 q1
  rw [hs] at hA ⊢
  refine Calls.callWith_builtin (by show (false || (backTo cpos (starEach es X.env)).any (·.1)) = false; rw [hplain] <;> rfl) (Calls.evalArgs_plain ?_)
  exact thn hA fun us s2 ⟨vs, H2, I2, r2, q2⟩ => hm pins s2 σ H2 x vs v us Q I2 r1 r2 q2
/- xs.append(e), list.index on a module's tuple .. are MtR facts of 06m -/
end
end L2

namespace L2
open PySem PySem.Spec PyProof.Rows

def MtM (X : Cx) (id : String) (r : V → List V → Hp → VK → Prop) : Prop :=
  ∀ (pins : List (Addr × Obj)) (s : Shared) (σ : St) (H : Hp) (x : V) (xs : List V) (v : Value) (us : List Value) (Q : VK), Inv X pins σ H s → RelV x v → Vals xs us → r x xs H Q →
    wpAny (model X.prog X.w) X.A (call (.builtin id) (v :: us)) (EP X pins σ Q) X.xe s

/-! ### lists of values -/
theorem Vals.one {x : V} {us : List Value} (h : Vals [x] us) : ∃ u, us = [u] ∧ RelV x u := by
  cases h with
  | cons r t => cases t; exact ⟨_, rfl, r⟩
theorem Vals.rep {xs : List V} {us : List Value} (h : Vals xs us) : ∀ k : Nat, Vals (List.replicate k xs).flatten (List.replicate k us).flatten
  | 0 => .nil
  | k + 1 => by
    rw [List.replicate_succ, List.replicate_succ, List.flatten_cons, List.flatten_cons]
    exact Vals.append h (Vals.rep h k)
theorem foldl_rep (its : List Value) : ∀ (k : Nat) (acc : List Value),
    List.foldl (fun x1 x2 => x1 ++ x2) acc.toArray (List.replicate k its.toArray) = (acc ++ (List.replicate k its).flatten).toArray
  | 0, acc => by simp
  | k + 1, acc => by
    have e : acc.toArray ++ its.toArray = (acc ++ its).toArray := by simp
    have e2 : (acc ++ its) ++ (List.replicate k its).flatten = acc ++ (List.replicate (k + 1) its).flatten := by
      rw [List.replicate_succ, List.flatten_cons, List.append_assoc]
    rw [← e2, ← foldl_rep its k (acc ++ its), ← e, List.replicate_succ, List.foldl_cons]

section
variable {X : Cx} {pins : List (Addr × Obj)} {σ : St} {H : Hp} {s : Shared} {l b : Addr} {xs ys zs : List V}

/-! ### the two steps: a tracked list is rewritten, a new list is laid -/
theorem Inv.lset {its its' : List Value} {n : Nat} {f : Array Value → Array Value} {t' : Nat} (I : Inv X pins σ H s) (hH : H l = some (.lst xs))
    (e : s.heap.get? l = some { cls := .type "list", data := .seq its.toArray n }) (hf : f its.toArray = its'.toArray) (hv : Vals ys its') (hz : ys.length ≤ sizeLine) :
    Inv X pins σ (upd H l (.lst ys)) { s with heap := s.heap.update l (Obj.mapSeq f), toks := t' } := by
  have q := PySem.IsL.update e f
  rw [hf] at q
  refine I.write (x := l) (e := l) (by rw [hH]; exact trivial) (.inl rfl) (fun b' u hb hu => (Heap.get?_update_other s.heap (Obj.mapSeq f) (Ne.symm hb)).trans hu) ⟨_, q⟩ ?_
  exact ⟨hz, its', _, hv, q⟩
theorem Inv.lnew {its : List Value} {t' : Nat} (I : Inv X pins σ H s) (hv : Vals ys its) (hz : ys.length ≤ sizeLine) :
    Inv X pins σ (upd H s.heap.objs.size (.lst ys)) { s with heap := s.heap.push { cls := .type "list", data := .seq its.toArray }, toks := t' } :=
  I.laid (fun _ _ q => Heap.get?_push_of_some _ q) (Nat.le_refl _) ⟨hz, its, 0, hv, Heap.get?_push_size _ rfl⟩
theorem Inv.fresh (I : Inv X pins σ H s) : H s.heap.objs.size = none := I.hok.fresh (Nat.le_refl _)
theorem Inv.lstM (I : Inv X pins σ H s) (hH : H l = some (.lst xs)) : xs.length ≤ sizeLine ∧ ∃ (its : List Value) (n : Nat), Vals xs its ∧ xs.length = its.length ∧ s.heap.get? l = some { cls := .type "list", data := .seq its.toArray n } := by
  obtain ⟨z, its, n, r, e⟩ := I.hok l _ hH
  exact ⟨z, its, n, r, r.length, e⟩

theorem notLongL {n : Nat} (h : n ≤ sizeLine) : Builtin.List.listTooLong n = false := by
  unfold Builtin.List.listTooLong
  exact decide_eq_false (by omega)
end

section
variable {X : Cx}

/-! ### methods -/
def rAppend : V → List V → Hp → VK → Prop := fun x vs H Q => ∃ l xs y, x = .ref l ∧ vs = [y] ∧ H l = some (.lst xs) ∧ xs.length < sizeLine ∧ Q .non (upd H l (.lst (xs ++ [y])))
theorem mt_append : MtM X "list.append" rAppend := by
  intro pins s σ H x vs v us Q I rx rv h
  obtain ⟨l, xs, y, rfl, rfl, hH, hz, q⟩ := h
  cases rx
  obtain ⟨u, rfl, ru⟩ := rv.one
  obtain ⟨z, its, n, r, hl, e⟩ := I.lstM hH
  refine call_meets F.slot_list_append ⟨_, e, rfl⟩ F.entry_list_append (F.args_list_append_2 _ _) (PySem.list_append l its.toArray n u (by rw [List.size_toArray]; omega)) ⟨e, ?_⟩
  refine ⟨.non, _, I.lset (its' := its ++ [u]) hH e (by simp) (r.append (.cons ru .nil)) ?_, rfl, q⟩
  rw [List.length_append, List.length_singleton]
  omega

/-! ### list + list, list += list, list * int -/
def rCat : R2 := fun x y H Q => ∃ l b xs zs, x = .ref l ∧ y = .ref b ∧ H l = some (.lst xs) ∧ H b = some (.lst zs) ∧ xs.length + zs.length ≤ sizeLine ∧ ∀ p, H p = none → Q (.ref p) (upd H p (.lst (xs ++ zs)))
theorem op_cat : OpR X (binaryOp .Add) rCat := by
  intro pins s σ H x y v u Q I rx ry h
  obtain ⟨l, b, xs, zs, rfl, rfl, hH, hB, hz, q⟩ := h
  cases rx
  cases ry
  obtain ⟨z, its, n, r, hl, e⟩ := I.lstM hH
  obtain ⟨z2, its2, n2, r2, hl2, e2⟩ := I.lstM hB
  refine PySem.P.add_list e e2 ?_ (by rw [List.size_toArray, List.size_toArray]; omega)
  have ea : its.toArray ++ its2.toArray = (its ++ its2).toArray := by simp
  rw [ea]
  exact ⟨.ref _, _, I.lnew (t' := s.toks) (r.append r2) (by rw [List.length_append]; omega), rfl, q _ I.fresh⟩
/-- a list times an int (a negative one is nothing) -/
def rRep : R2 := fun x y H Q => ∃ l k xs, x = .ref l ∧ y = .int k ∧ H l = some (.lst xs) ∧ -(2 ^ 63) ≤ k ∧ k < 2 ^ 63 ∧ xs.length * k.toNat ≤ sizeLine ∧
  ∀ p, H p = none → Q (.ref p) (upd H p (.lst (List.replicate k.toNat xs).flatten))
theorem len_rep {α : Type} (xs : List α) (k : Nat) : (List.replicate k xs).flatten.length = k * xs.length := by
  induction k with
  | zero => simp
  | succ k ih => rw [List.replicate_succ, List.flatten_cons, List.length_append, ih, Nat.succ_mul, Nat.add_comm]
theorem op_rep : OpR X (binaryOp .Mult) rRep := by
  intro pins s σ H x y v u Q I rx ry h
  obtain ⟨l, k, xs, rfl, rfl, hH, h1, h2, hz, q⟩ := h
  cases rx
  obtain ⟨t, rfl⟩ := ry
  obtain ⟨z, its, n, r, hl, e⟩ := I.lstM hH
  have hlen : its.toArray.size * k.toNat ≤ sizeLine := by rw [List.size_toArray, ← hl]; exact hz
  have hcap : ¬ its.toArray.size * k.toNat > (2 ^ 63 - 1) / 8 := by
    have : (sizeLine : Nat) ≤ (2 ^ 63 - 1) / 8 := by decide
    omega
  have hfit : ¬ (!Builtin.List.listFitsIndex k) = true := by
    rw [fitsIndex_both h1 h2]
    exact Bool.false_ne_true
  have hlong : ¬ Builtin.List.listTooLong (its.toArray.size * k.toNat) = true := by
    rw [notLongL hlen]
    exact Bool.false_ne_true
  have hnew : List.foldl (fun x1 x2 => x1 ++ x2) #[] (List.replicate (if its.toArray.isEmpty = true then 0 else k.toNat) its.toArray) = (List.replicate k.toNat its).flatten.toArray := by
    have f0 : ∀ m : Nat, List.foldl (fun x1 x2 => x1 ++ x2) #[] (List.replicate m its.toArray) = (List.replicate m its).flatten.toArray := fun m => by
      have := foldl_rep its m []
      rw [List.nil_append] at this
      exact this
    rw [f0]
    cases its with
    | nil => simp
    | cons a r' => rw [if_neg (by simp)]
  refine wpAny_binaryOp_repeat_ref (T := "list") (U := "int") (by decide) ⟨_, e, rfl⟩ (fun s' => typeIs_int s' k t) noFill_list_mul F.fills_int_mul F.slot_int_rmul repeat_list F.slot_int_index.lookup
    (call_meets F.slot_int_rmul (typeIs_int s k t) F.entry_int_rmul (F.args_int_rmul_2 _ _) (int___rmul___int_list k t l its.toArray n)
      ⟨e, rfl, ⟨_, e, rfl⟩, call_meets F.slot_list_mul ⟨_, e, rfl⟩ F.entry_list_mul (F.args_list_mul_2 _ _) (AutoListH.list___mul___list_int_3 l its.toArray n k t hfit hcap hlong) ⟨e, ?_⟩⟩)
  rw [hnew]
  exact ⟨.ref _, _, I.lnew (t' := s.toks) (r.rep k.toNat) (by rw [len_rep, Nat.mul_comm]; exact hz), rfl, q _ I.fresh⟩

/-! ### del xs[i] -/
end

/-! ### xs[a:b] = ys -/
section
variable {prog : Program} {w : World} {A : Around} {E : Value → Shared → Prop} {s : Shared}
end

section
variable {X : Cx}
end
end L2

namespace L2
open PySem PySem.Spec PyProof.Rows

/-! ### lists of pairs as tables -/
section
variable {κ : Type} [DecidableEq κ]
end


/-! ### a tracked dict, its keys ints and texts or tuples of these -/
section
variable {P : Program} {w : World} {H : Hp} {h : Heap} {a : Addr}
end

section
variable {X : Cx} {pins : List (Addr × Obj)} {σ : St} {H : Hp} {s : Shared} {a : Addr} {y v : V} {u r : Value} {o : Option V} {A : Around} {E : Value → Shared → Prop}

end

section
variable {X : Cx} {pins : List (Addr × Obj)} {σ : St} {H : Hp} {s : Shared} {a : Addr} {kvs : List (Key × V)} {k : Key} {u : Value} {A : Around} {E : Value → Shared → Prop}
end


/-! ### readings and rules -/
section
variable {X : Cx} {o i e value : Expr} {pos pos' tpos : Pos} {td ty tv : TE}
end


/-! ### displays -/
section
variable {X : Cx} {pos : Pos}
end

/-! ### methods -/
section
variable {X : Cx} {pins : List (Addr × Obj)} {σ : St} {H : Hp} {s : Shared} {a : Addr} {y d : V} {u r : Value} {o : Option V} {A : Around} {E : Value → Shared → Prop}
end

section
variable {X : Cx} {o e f : Expr} {apos cpos : Pos} {td ty tx : TE}
end

/-! ### dict(d): a copy -/
section
variable {X : Cx} {pins : List (Addr × Obj)} {σ : St} {H : Hp} {s : Shared} {a : Addr} {kvs : List (Key × V)} {A : Around} {E : Value → Shared → Prop}
end


section
variable {X : Cx} {pins : List (Addr × Obj)} {σ : St} {H : Hp} {s : Shared} {a : Addr} {y : V} {u : Value} {A : Around} {E : Value → Shared → Prop}
end
end L2

namespace Att
open PySem PySem.W PySem.Calls PyProof.Rows

/-! ### the script -/
theorem ints_of_wellAll {P : Params} {h : Heap} : ∀ (ns : List Int) (vs : List Value), WellAll P h vs (ns.map WData.int) → IntsAre vs ns := by
  intro ns
  induction ns with
  | nil =>
    intro vs w
    rw [List.map_nil] at w
    cases w
    exact .nil
  | cons n ns ih =>
    intro vs w
    rw [List.map_cons] at w
    cases w with
    | cons a b =>
      cases a
      exact .cons _ _ (ih _ b)

theorem script_of {l : OpenLaw} {n : Nat} (hn : l.most = some n) {P : Params} {h : Heap} {args : List WData} {vals : List Value}
    (hpre : l.row.toRowW.claim.pre args = true) (hwl : WellAll P h vals args) :
    ∃ a vs ns, vals = [Value.ref a] ∧ args = [WData.list (ns.map WData.int)] ∧ h.get? a = some { cls := .type "list", data := .seq vs.toArray } ∧ IntsAre vs ns ∧ ns.length ≤ n := by
  have hsh : WShape.hasAll [] args [.list .int] = true := (pre_splitW hpre).1
  have hc : l.pre.holds [] { args := args } = true := (pre_splitW hpre).2
  obtain ⟨d, r, rfl, h1, h2⟩ := hasAllW_cons hsh
  obtain rfl := hasAllW_nil h2
  obtain ⟨xs, rfl, h3⟩ := hasW_list h1
  obtain ⟨ns, rfl⟩ := items_int h3
  have hlen : ns.length ≤ n := by
    unfold OpenLaw.pre at hc
    have h4 : (WTm.not (.lt (.lit (.int (n : Int))) (.len (.arg 0)))).holds [] { args := [.list (ns.map .int)] } = true := by
      have h4 := (holds_andW hc).1
      rw [hn] at h4
      exact h4
    have h5 := condW_of h4 (w_not (w_lt w_lit (w_len_list (w_arg rfl))))
    rw [List.length_map] at h5
    refine Nat.le_of_not_lt fun q => ?_
    have q' : (n : Int) < ((ns.length : Nat) : Int) := by omega
    first
      | (rw [decide_eq_true q'] at h5; exact absurd h5 (by decide))
      | (simp at h5; omega)
  cases hwl with
  | cons w1 w2 =>
    cases w2
    cases w1 with
    | list ho hall => exact ⟨_, _, ns, rfl, rfl, ho, ints_of_wellAll ns _ hall, hlen⟩

theorem post_true (l : OpenLaw) (args : List WData) : l.row.toRowW.claim.post args (.bool true) args = true :=
  postW_of (r := l.row.toRowW) (X := (true == true))
    (show WShape.has [] (.bool true) .bool = true by first | rfl | decide | simp [WShape.has, WShape.arms, WShape.armsAll])
    (show (WTm.eq .res (.lit (.bool true))).value [] { args := args, res := some (.bool true), after := args } = some (.bool (true == true)) from w_eq_bool (w_res rfl) w_lit) rfl

/-! ### the attachment: holds_open's last premise (the goal 'hc' behind k_head) from a wpAny of the law's body -/
/-- the same from a codeAny of the CALL (for a layer whose function contracts speak of calls) -/
theorem attach_call {l : OpenLaw} {n : Nat} {q : Program} {loose : List Str} {XP : (Str → Option Value) → Heap → Prop} {YP : World → Heap → Prop} {d : DefRec}
    (hn : l.most = some n) (hdf : d.params.defaults = [])
    (call : ∀ (w : World) (s₀ s₁ : Shared) (mg mb : Str → Option Value) (fa : Addr) (o : Obj) (pm cd doc : Value) (a : Addr) (vs : List Value) (ns : List Int),
      Ground q loose [] XP w s₀ mg mb s₁.heap → YP w s₁.heap →
      s₁.heap.get? fa = some o → o.data = .func (docDef d.name d.params d.body d.scope pm cd doc) → s₁.heap.CodeRec cd d.name → mg d.name = some (.ref fa) →
      s₁.heap.get? a = some { cls := .type "list", data := .seq vs.toArray } → IntsAre vs ns → ns.length ≤ n → s₁.gens = #[] →
      codeAny (model l.prog w) callerA (.call (.ref fa) ⟨[.ref a], []⟩) (fun r s' => r = .ok (.ret (.bool true)) ∧ OldK s₁.heap s'.heap ∧ s'.os = s₁.os ∧ AllBare s'.gens) s₁) :
    WalkO q loose XP YP l.row.toRowW d [] (fun f vs => PySem.call f vs) := by
  intro w s₀ s₁ mg mb G Y fa o pm cd doc dV kV ho hd hcd hD hmg hg args vals as hpre hlay hrd hwl hlo
  obtain rfl : dV = .none := Dflts.none hD hdf
  obtain rfl : kV = .none := Dflts.noKw hD
  obtain ⟨a, vs, ns, rfl, rfl, hobj, hints, hlen⟩ := script_of hn hpre hwl
  refine enter_call (codeAny_mono (call w s₀ s₁ mg mb fa o pm cd doc a vs ns G Y ho (fd_plain hd) hcd hmg hobj hints hlen hg) fun r s' hq => ?_)
  obtain ⟨rfl, h2, h3, h4⟩ := hq
  exact ⟨.inl ⟨.bool true, .bool true, [], rfl, fun _ => rfl, .bool true, post_true l _, fun _ => ⟨List.Pairwise.nil, fun _ hm => (nomatch hm)⟩⟩, h2, h3, h4⟩

/-! ### rules over ANY heap (no ledger) from facts about the written part K: the library's own take a ledger (News) for what they write -/
section
variable {prog : Program} {w : World} {A : Around} {E : Value → Shared → Prop} {s : Shared} {K : Frag}

/-! the whole heap as the ledger: makes every rule that writes through a ledger a rule over any heap -/
def ledger (h : Heap) (L d : Addr) : List (Addr × Obj) := (List.range h.objs.size).filterMap fun a => if a = L ∨ a = d then none else (h.get? a).map fun o => (a, o)
end
end Att

namespace L2
open PySem PySem.Spec PyProof.Rows

theorem vals_ints {vs : List Value} {ns : List Int} (h : IntsAre vs ns) : Vals (ns.map V.int) vs := by
  induction h with
  | nil => exact .nil
  | cons n t h ih => exact .cons ⟨t, rfl⟩ ih

/-- nothing is tracked but the script, known to the object (or it is an object of the module) -/
def Only (H : Hp) : Prop := ∀ b, H b = none ∨ ∃ o xs, H b = some (.frz o (.lst xs))

/-- THE HEAD: the law's promise, at the heap behind the top. F, the promise of the law's def, may use that base is part of the heap (so K.In base, base.Ns mainGlobals mg stand in Mod) -/
theorem law_call {P : Program} {w : World} {K : PySem.W.Frag} {mg mb : Str → Option Value} {CX : CXT} {k : Nat} {fa a : Addr} {fd : FuncData} {x : Str} {sp : Sp} {s₁ : Shared} {vs : List Value} {ns : List Int}
    (KX : K.In s₁.heap) (hns : s₁.heap.Ns mainGlobals mg) (hb : s₁.heap.Ns builtinsNs mb) (hbb : ∀ x : Str, x ≠ "__name__" → mb x = bootBuiltins x) (hlim : s₁.heap.NoLimit) (hg : s₁.gens = #[])
    (ha : s₁.heap.get? a = some { cls := .type "list", data := .seq vs.toArray }) (hi : IntsAre vs ns) (hl : ns.length ≤ sizeLine) (hr : Room k callerA)
    (F : ∀ base : Heap, K.In base → base.Ns mainGlobals mg → FnOk P w K mg base CX k fa fd [x] sp) (hbind : ∀ (s : Shared) (u : Value), BindsTo s fd ⟨[u], []⟩ [(x, u)])
    (hsp : ∀ H : Hp, Only H → SqL K H a (ns.map V.int) → sp [.ref a] H (fun v _ => v = .bl true) fun _ _ _ => False)
    (hCX : ∀ H e s', CX [] H s₁ (fun _ _ _ => False) e s' → False) :
    codeAny (model P w) callerA (.call (.ref fa) ⟨[.ref a], []⟩) (fun r s' => r = .ok (.ret (.bool true)) ∧ OldK s₁.heap s'.heap ∧ s'.os = s₁.os ∧ AllBare s'.gens) s₁ := by
  have rv := vals_ints hi
  have lenV := hi.length
  -- from an abstract heap in which nothing but the script may be tracked
  have core : ∀ H : Hp, Only H → SqL K H a (ns.map V.int) → HOk P w H s₁.heap → (∀ b, H b ≠ none → b = a) → (H a ≠ none → K.lookup a = none) →
      codeAny (model P w) callerA (.call (.ref fa) ⟨[.ref a], []⟩) (fun r s' => r = .ok (.ret (.bool true)) ∧ OldK s₁.heap s'.heap ∧ s'.os = s₁.os ∧ AllBare s'.gens) s₁ := by
    intro H hO hS hok hA hK
    have base_of : ∀ {b : Addr} {o : Obj}, s₁.heap.get? b = some o → H b = none → (hidT s₁.heap H).get? b = some o := fun e n => hidT_get e n
    have noA : ∀ {b : Addr} {o : Obj} {es : Array DictEntry} {ep : Nat}, s₁.heap.get? b = some o → o.data = .dict es ep → H b = none := fun {b o es ep} e d => by
      cases q : H b with
      | none => rfl
      | some u =>
        have e' : b = a := hA b (by rw [q]; simp)
        subst e'
        rw [ha] at e; cases e
        have d' : Data.seq vs.toArray _ = Data.dict es ep := d
        cases d'
    have nsK : ∀ {b : Addr} {m : Str → Option Value}, s₁.heap.Ns b m → (hidT s₁.heap H).Ns b m := fun {b m} ⟨o, es, ep, e, d, r⟩ => ⟨o, es, ep, base_of e (noA e d), d, r⟩
    have hKb : K.In (hidT s₁.heap H) := fun b o e => base_of (KX b o e) (by
      cases q : H b with
      | none => rfl
      | some u =>
        have e' : b = a := hA b (by rw [q]; simp)
        subst e'
        rw [hK (by rw [q]; simp)] at e; cases e)
    have hM : Mod K mg (hidT s₁.heap H) := ⟨hKb, nsK hns, ⟨mb, nsK hb, hbb⟩, let ⟨mc, h1, h2⟩ := hlim; ⟨mc, nsK h1, h2⟩⟩
    have e0 : Env0 P w K mg (hidT s₁.heap H) callerA [] s₁ H := ⟨rfl, hM, fun b o e => of_hidT e, Nat.le_of_eq (hidT_size _ _), trivial, fun b hb => absurd (show b ∈ ([] : List Addr) from hb) (by simp), hok, .of_eq hg⟩
    refine codeAny_mono ((F _ hKb (nsK hns)).run callerA [] s₁ H ⟨[.ref a], []⟩ [.ref a] [.ref a] _ _ hr e0 (hbind s₁ (.ref a)) (.cons rfl .nil) (hsp H hO hS)) fun r s' h => ?_
    cases r with
    | error e => exact (hCX H e s' h).elim
    | ok fl =>
      cases fl with
      | next => exact False.elim h
      | brk => exact False.elim h
      | cont => exact False.elim h
      | ret u =>
        obtain ⟨v, H', os, bare, un, hok', r', q⟩ := h
        have q' : v = .bl true := q
        subst q'
        obtain rfl : u = Value.bool true := r'
        refine ⟨rfl, OldK.of_keep fun b o e => ?_, os, bare⟩
        cases q : H b with
        | none => exact un.keep b o e q (by intro z; exact absurd (show b ∈ ([] : List Addr) from z) (by simp)) (by simp)
        | some u =>
          rcases hO b with z | ⟨ob, xs, z⟩
          · rw [q] at z; cases z
          · have z2 := un.frzs b ob _ z
            obtain ⟨e1, _⟩ := hok b _ z
            obtain ⟨e2, _⟩ := hok' b _ z2
            rw [e] at e1; cases e1
            exact e2
  cases hk : K.lookup a with
  | some o =>
    -- the script is one of the module's own objects
    have e := KX a o hk
    rw [ha] at e
    cases e
    refine core (fun _ => none) (fun _ => .inl rfl) (.inr ⟨_, vs.toArray, _, hk, rfl, rfl, rfl, by rw [List.size_toArray, lenV]; exact hl, by simpa using rv⟩) (fun b u z => by have z' : (none : Option HO) = some u := z; cases z') (fun b z => absurd rfl z) fun z => absurd rfl z
  | none =>
    refine core (fun b => if b = a then some (.frz { cls := .type "list", data := .seq vs.toArray } (.lst (ns.map V.int))) else none) (fun b => ?_) (.inl (.inr ⟨{ cls := .type "list", data := .seq vs.toArray }, if_pos rfl⟩)) (fun b u z => ?_) (fun b z => ?_) fun _ => hk
    · by_cases hb : b = a
      · exact .inr ⟨_, _, if_pos hb⟩
      · exact .inl (if_neg hb)
    · by_cases hb : b = a
      · have z' := (if_pos hb).symm.trans z
        cases z'
        subst hb
        exact ⟨ha, by rw [List.length_map]; exact hl, vs, _, rv, ha⟩
      · have z' := (if_neg hb).symm.trans z
        cases z'
    · by_cases hb : b = a
      · exact hb
      · exact absurd (if_neg hb) z
end L2

namespace L2
open PySem PySem.Spec PyProof.Rows

abbrev KOf {K : PySem.W.Frag} {h : Heap} (_ : K.In h) : PySem.W.Frag := K

/-- the goal that k_head leaves (case hc), from the law's promise. F gives the function object fd (K's own) once, then the promise over every base -/
theorem walk_of {l : PySem.W.OpenLaw} {n k : Nat} {q : Program} {loose : List Str} {XP : (Str → Option Value) → Heap → Prop} {YP : World → Heap → Prop} {d : DefRec} {K : Params → PySem.W.Frag} {CX : World → CXT} {sp : World → Sp} {x : Str}
    (hn : l.most = some n) (hn2 : n ≤ sizeLine) (hdf : d.params.defaults = []) (hr : Room k callerA)
    (hY : ∀ (w : World) (h : Heap), YP w h → (K w.params).In h)
    (F : ∀ (w : World) (mg : Str → Option Value) (fa : Addr) (h : Heap), (K w.params).In h → h.Ns mainGlobals mg → mg d.name = some (.ref fa) →
      ∃ fd : FuncData, (∀ (s : Shared) (u : Value), BindsTo s fd ⟨[u], []⟩ [(x, u)]) ∧
        ∀ base : Heap, (K w.params).In base → base.Ns mainGlobals mg → FnOk l.prog w (K w.params) mg base (CX w) k fa fd [x] (sp w))
    (hsp : ∀ (w : World) (H : Hp) (a : Addr) (ns : List Int), ns.length ≤ n → Only H → SqL (K w.params) H a (ns.map V.int) → sp w [.ref a] H (fun v _ => v = .bl true) fun _ _ _ => False)
    (hCX : ∀ (w : World) (H : Hp) (s : Shared) (e : Value) (s' : Shared), CX w [] H s (fun _ _ _ => False) e s' → False) :
    PySem.W.WalkO q loose XP YP l.row.toRowW d [] (fun f vs => PySem.call f vs) := by
  refine Att.attach_call hn hdf fun w s₀ s₁ mg mb fa o pm cd doc a vs ns G Y ho hd hcd hmg hobj hints hlen hg => ?_
  have KX := hY w _ Y
  obtain ⟨fd, hb, hF⟩ := F w mg fa _ KX G.T.g hmg
  exact law_call KX G.T.g G.T.b G.T.builtins G.T.nolimit hg hobj hints (Nat.le_trans hlen hn2) hr hF hb (fun H hO hS => hsp w H a ns hlen hO hS) fun H e s' => hCX w H s₁ e s'
end L2

/- THE LAST THEOREM (shape; LID, My.* are yours):
   My.Adr: a structure of the addresses that your layer names (classes, functions); My.Txt K t: a structure (Prop) of the equations over K;
   My.txt_mk : {K} {implicit addresses ..} (e1 : nsIn K mainGlobals "law" = some (some (.ref f))) (e2 : K.lookup f = some ⟨oc, od, .func (fnOf "law" "law" params body scope dV kV doc pm an cdv ct), sl⟩) (e3 : codeIn K cdv "law" = true) .. : ∃ t, My.Txt K t

set_option maxRecDepth 100000 in
set_option maxHeartbeats 0 in
theorem PySem.Challenge.cw_LID_holds : PySem.Challenge.rw_LID.Holds := by
  w_on; o_law; k_head; (case hw => w_witness2)
  k_fill
  refine L2.walk_of (l := PySem.Challenge.rw_LID) (n := 63) (k := 40) (x := "script") (CX := fun w => ..) (sp := fun _ => My.sp_law) rfl (by decide) rfl ⟨rfl, by decide, by decide⟩ (fun w h Y => PySem.W.kIn_of Y) ?F ?S ?C
  case F =>
    intro w mg fa h KX G hmg
    have T : ∃ t, My.Txt (L2.KOf KX) t := by
      dsimp only [L2.KOf]                          -- K must stand as «<heap const> w.params» for k_is
      refine' My.txt_mk ?e1 ?e2 ?e3 ..
      (case e1 => PySem.W.k_is)                    -- in the order: a name -> its address -> its object -> its parts
      (case e2 => PySem.W.k_is)
      ..
    obtain ⟨t, T⟩ := T
    have e0 := hmg.symm.trans (PySem.W.mg_of KX G T.law)
    cases e0                                       -- fa is the law's own address
    exact ⟨_, fun s u => .of_eq rfl, fun base kb nb => My.law_fn T kb nb⟩     -- if «.of_eq rfl» comes too early: refine' ⟨_, ?b, fun base kb nb => My.law_fn T kb nb⟩; exact fun s u => .of_eq rfl
  case S => exact fun w H a ns hl hO hS => ..
  case C => exact ..
(the tactic k_is has no namespace: write k_is) -/

/-! SHORT WORDS over the layer: a def of the text, its body, what a loop and a test want. -/
namespace L2
open PySem PySem.Spec PyProof.Rows

/-! ### the text by places -/
/-- the j-th statement of a class's body -/
def inClass (s : Stmt) (j : Nat) : Stmt := match s with
  | .ClassDef _ _ _ body _ _ _ _ _ _ _ => body.getD j (.Pass ⟨0, 0, 0, 0⟩)
  | _ => .Pass ⟨0, 0, 0, 0⟩
def defArgs (s : Stmt) : Arguments := match s with
  | .FunctionDef _ a _ _ _ _ _ _ _ _ => a
  | _ => { posonlyargs := [], args := [], vararg := none, kwonlyargs := [], kw_defaults := [], kwarg := none, defaults := [] }
def defBody (s : Stmt) : List Stmt := match s with
  | .FunctionDef _ _ b _ _ _ _ _ _ _ => b
  | _ => []
def defScope (s : Stmt) : Scope := match s with
  | .FunctionDef _ _ _ _ _ _ sc _ _ _ => sc
  | _ => { kind := .function, names := [], isGenerator := false, isCoroutine := false }

/-! ### no exception leaves a def -/
abbrev CX0 : CXT := fun _ _ _ _ _ _ => False
abbrev E0 : XK := fun _ _ _ => False
theorem pass0 {X : Cx} : Passes CX0 X E0 := fun _ _ _ _ _ _ _ h => h.elim

/-! ### a def (or method) of the text as it stands behind the top -/
structure Fun (K : PySem.W.Frag) (x qual : Str) (st : Stmt) (f : Addr) (fd : FuncData) : Prop where
  ex : ∃ (oc : Value) (od : Option Addr) (kV doc pm : Value) (an : Option Addr) (cdv ct : Value) (osl : Array (Option Value)),
    fd = PySem.W.fnOf x qual (defArgs st) (defBody st) (defScope st) .none kV doc pm an cdv ct ∧ K.lookup f = some ⟨oc, od, .func fd, osl⟩ ∧ PySem.W.codeIn K cdv qual = true
  kp : PySem.W.keepIn K (.ref f) = true
section
variable {P : Program} {w : World} {K : PySem.W.Frag} {mg : Str → Option Value} {base : Heap}
/-- THE RULE for a def: its body as a term of rules, and the reading of that term -/
theorem Fun.ok {x qual : Str} {st : Stmt} {f : Addr} {fd : FuncData} {N ps : List Str} {k : Nat} {sp : Sp} (F : Fun K x qual st f fd) (S : FnScope N ps (defScope st)) (len : ∀ vs H Q E, sp vs H Q E → vs.length = ps.length)
    (hbody : ∀ (cdv : Value) (A : Around) (outer : List Env) (s : Shared) (H : Hp) (vs : List V) (Q : VK) (E : XK), Room k (A.deeper (envOfC qual (defScope st) s.heap.objs.size f cdv)) → sp vs H Q E →
      ∃ t, PSs (cxOf CX0 P w K mg base N qual (defScope st) f cdv A outer s H E).nox (defBody st) t ∧ t { nx := fun _ H' => Q .non H', rt := Q } (start N vs) H) : FnOk P w K mg base CX0 (k + 1) f fd ps sp := by
  obtain ⟨oc, od, kV, doc, pm, an, cdv, ct, osl, rfl, lk, hcd⟩ := F.ex
  refine fn_of lk hcd S len fun A outer s H vs Q E hr hsp => ?_
  obtain ⟨t, h, q⟩ := hbody cdv A outer s H vs Q E hr hsp
  exact ⟨t, h.nox, q⟩
/-- how its arguments bind (no defaults): h is «fun _ _ _ _ _ _ us hl => match us, hl with | [_, _], _ => rfl», one _ a parameter -/
theorem Fun.binds {x qual : Str} {st : Stmt} {f : Addr} {fd : FuncData} {ps : List Str} (F : Fun K x qual st f fd)
    (h : ∀ (kV doc pm : Value) (an : Option Addr) (cdv ct : Value) (us : List Value), us.length = ps.length → bindArgs (PySem.W.fnOf x qual (defArgs st) (defBody st) (defScope st) .none kV doc pm an cdv ct) ⟨us, []⟩ = pure (ps.zip us)) : Binds K fd ps [] := by
  obtain ⟨oc, od, kV, doc, pm, an, cdv, ct, osl, rfl, lk, hcd⟩ := F.ex
  exact .all (h kV doc pm an cdv ct)
theorem fun_mk {x qual : Str} {st : Stmt} {f : Addr} {oc : Value} {od an : Option Addr} {osl : Array (Option Value)} {kV doc pm cdv ct : Value} (l : K.lookup f = some ⟨oc, od, .func (PySem.W.fnOf x qual (defArgs st) (defBody st) (defScope st) .none kV doc pm an cdv ct), osl⟩)
    (c : PySem.W.codeIn K cdv qual = true) (k : PySem.W.keepIn K (.ref f) = true) : Fun K x qual st f (PySem.W.fnOf x qual (defArgs st) (defBody st) (defScope st) .none kV doc pm an cdv ct) := ⟨⟨oc, od, kV, doc, pm, an, cdv, ct, osl, rfl, l, c⟩, k⟩
end
/-! ### expressions in short: the name that stands in the i-th slot -/
section
variable {X : Cx}
theorem pv (i : Nat) {x : Str} {pos : Pos} (hN : X.N[i]? = some x := by rfl) (hv : Vis X.env.scope x := by first | exact Or.inl rfl | exact Or.inr (Or.inl rfl) | exact Or.inr (Or.inr rfl)) (hd : (x == ("__debug__" : Str)) = false := by decide)
    (hcd : (x == ("__classdict__" : Str)) = false := by decide) : PE X (.Name x pos) (tVar i) := pe_var hN hv hd hcd
end

/-! ### tests -/
theorem iteF {A B : Prop} (h : B) : if false = true then A else B := by
  rw [if_neg Bool.false_ne_true]
  exact h
theorem iteT {A B : Prop} (h : A) : if true = true then A else B := by
  rw [if_pos rfl]
  exact h
theorem ite2 {c A B : Prop} [Decidable c] (h1 : c → A) (h2 : ¬ c → B) : if c then A else B := by
  by_cases h : c
  · rw [if_pos h]
    exact h1 h
  · rw [if_neg h]
    exact h2 h
theorem iteNS {c A B : Prop} [Decidable c] (hc : c) (h : B) : if (!decide c) = true then A else B := by
  rw [decide_eq_true hc]
  exact iteF h

/-! ### heaps -/
/-- all that was tracked is as it was -/
def Same (H H' : Hp) : Prop := ∀ b o, H b = some o → H' b = some o
theorem Same.refl (H : Hp) : Same H H := fun _ _ h => h
theorem Same.trans {H H1 H2 : Hp} (a : Same H H1) (b : Same H1 H2) : Same H H2 := fun c o h => b c o (a c o h)
theorem Same.free {H H' : Hp} (e : Same H H') {l : Addr} (h : H' l = Option.none) : H l = Option.none := by
  cases q : H l with
  | none => rfl
  | some o =>
    rw [e l o q] at h
    cases h
theorem Same.seq {K : PySem.W.Frag} {H H' : Hp} {a : Addr} {xs : List V} (e : Same H H') (h : SqL K H a xs) : SqL K H' a xs := by
  rcases h with (h | ⟨o, h⟩) | h
  · exact .inl (.inl (e _ _ h))
  · exact .inl (.inr ⟨o, e _ _ h⟩)
  · exact .inr h

/-! ### a dict's pairs: keys that differ -/
section
variable {κ : Type} [DecidableEq κ]
end
end L2

set_option Elab.async false
set_option linter.all false
set_option maxRecDepth 100000
set_option maxHeartbeats 4000000
namespace L2
open PySem PySem.Spec PyProof.Rows

theorem natlt {a n : Addr} (h : a < n) : @LT.lt Nat _ a n := h
/-! ### a comprehension's block -/
/-- the cells that a block takes along -/
def clOf (env : Env) : List (Str × NameKind) → List (Str × Addr) → List (Str × Addr)
  | [], acc => acc
  | (n, k) :: r, acc => if k == .free then clOf env r ((n, (env.cells.lookup n).getD 0) :: acc) else clOf env r acc
theorem closure_eq {env : Env} {scope : Scope} (h : ∀ y ∈ scope.names, y.2 = .free → (env.cells.lookup y.1).isSome = true) : closureFor scope env = pure (clOf env scope.names []) := by
  have go : ∀ (ns : List (Str × NameKind)) (acc : List (Str × Addr)), (∀ y ∈ ns, y.2 = .free → (env.cells.lookup y.1).isSome = true) →
      (forIn ns acc (fun x cs => match x with | (name, kind) => if (kind == .free) = true then do let c ← cellOf env name; pure (ForInStep.yield ((name, c) :: cs)) else pure (ForInStep.yield cs)) : Sem (List (Str × Addr))) = pure (clOf env ns acc) := by
    intro ns
    induction ns with
    | nil => intro acc _; rfl
    | cons y r ih =>
      intro acc hy
      obtain ⟨n, k⟩ := y
      rw [List.forIn_cons]
      by_cases hk : k = .free
      · subst hk
        have hs := hy (n, .free) List.mem_cons_self rfl
        obtain ⟨c, hc⟩ := Option.isSome_iff_exists.mp hs
        have e : cellOf env n = pure c := by unfold cellOf; rw [hc]
        show _ = pure (clOf env r ((n, (env.cells.lookup n).getD 0) :: acc))
        rw [← ih _ fun y hm => hy y (List.mem_cons_of_mem _ hm)]
        simp only [beq_self_eq_true, if_true, e, pure_bind, hc, Option.getD_some]
      · have hb : (k == NameKind.free) = false := by simpa using hk
        have hc : clOf env ((n, k) :: r) acc = clOf env r acc := by
          show (if (k == NameKind.free) = true then _ else _) = _
          rw [if_neg (by rw [hb]; decide)]
        rw [hc, ← ih _ fun y hm => hy y (List.mem_cons_of_mem _ hm)]
        simp only [hb, Bool.false_eq_true, if_false, pure_bind]
  have q := go scope.names [] h
  unfold closureFor
  show (forIn scope.names [] _ >>= fun r => pure r) = _
  rw [bind_pure]
  exact q
theorem clOf_lookup {env : Env} : ∀ (ns : List (Str × NameKind)) (acc : List (Str × Addr)) (x : Str), (∀ y ∈ ns, y.2 = .free → (env.cells.lookup y.1).isSome = true) →
    (clOf env ns acc).lookup x = if (x, NameKind.free) ∈ ns then env.cells.lookup x else acc.lookup x
  | [], acc, x, _ => by simp [clOf]
  | (n, k) :: r, acc, x, h => by
    have hr : ∀ y ∈ r, y.2 = .free → (env.cells.lookup y.1).isSome = true := fun y hm => h y (List.mem_cons_of_mem _ hm)
    by_cases hk : k = .free
    · subst hk
      show (clOf env r ((n, (env.cells.lookup n).getD 0) :: acc)).lookup x = _
      rw [clOf_lookup r _ x hr]
      obtain ⟨c, hc⟩ := Option.isSome_iff_exists.mp (h (n, .free) List.mem_cons_self rfl)
      have hc : env.cells.lookup n = some c := hc
      by_cases hm : (x, NameKind.free) ∈ r
      · rw [if_pos hm, if_pos (List.mem_cons_of_mem _ hm)]
      · rw [if_neg hm]
        by_cases e : x = n
        · subst e
          rw [if_pos List.mem_cons_self, List.lookup_cons, hc]
          simp
        · rw [if_neg (fun z => (List.mem_cons.mp z).elim (fun q => e (congrArg Prod.fst q)) hm), List.lookup_cons]
          have : (x == n) = false := by simpa using e
          rw [this]
    · have hb : (k == NameKind.free) = false := by simpa using hk
      have hc : clOf env ((n, k) :: r) acc = clOf env r acc := by
        show (if (k == NameKind.free) = true then _ else _) = _
        rw [if_neg (by rw [hb]; decide)]
      rw [hc, clOf_lookup r acc x hr]
      have : ((x, NameKind.free) ∈ (n, k) :: r) ↔ (x, NameKind.free) ∈ r := by
        constructor
        · intro z
          rcases List.mem_cons.mp z with q | q
          · exact absurd (congrArg Prod.snd q).symm hk
          · exact q
        · exact List.mem_cons_of_mem _
      simp only [this]

theorem relabel_lookup (env : Env) : ∀ (ns : List (Str × NameKind)) (x : Str),
    (ns.map fun (n, k) => if (k == .free && env.scope.kind == .function && env.kindOf n == some .cell) then (n, NameKind.cell) else (n, k)).lookup x =
      (ns.lookup x).map fun k => if (k == .free && env.scope.kind == .function && env.kindOf x == some .cell) = true then NameKind.cell else k
  | [], x => rfl
  | (n, k) :: r, x => by
    show List.lookup x ((if (k == NameKind.free && env.scope.kind == .function && env.kindOf n == some .cell) = true then (n, NameKind.cell) else (n, k)) :: _) = _
    cases hx : x == n with
    | true =>
      have e : x = n := by simpa using hx
      subst e
      by_cases hc : (k == NameKind.free && env.scope.kind == .function && env.kindOf x == some .cell) = true
      · rw [if_pos hc]; simp only [List.lookup_cons, hx, Option.map_some, if_pos hc]
      · rw [if_neg hc]; simp only [List.lookup_cons, hx, Option.map_some, if_neg hc]
    | false =>
      have ih := relabel_lookup env r x
      by_cases hc : (k == NameKind.free && env.scope.kind == .function && env.kindOf n == some .cell) = true
      · rw [if_pos hc]; simp only [List.lookup_cons, hx]; exact ih
      · rw [if_neg hc]; simp only [List.lookup_cons, hx]; exact ih

/-- the block's names: its own first, then those that it takes along: the outer names at the places caps -/
structure CompScope (N own : List Str) (caps : List Nat) (XN : List Str) (outer scope : Scope) : Prop where
  kind : scope.kind = .function
  nocell : ∀ y ∈ scope.names, y.2 ≠ .cell
  names : ∀ y ∈ scope.names, y.2 = .local → scope.names.lookup y.1 = some .local
  free : ∀ y ∈ scope.names, y.2 = .free → outer.names.lookup y.1 = some .cell ∨ outer.names.lookup y.1 = some .free
  nd : N.Nodup
  len : N.length = own.length + caps.length
  cap : ∀ (j : Nat), j < caps.length → N[own.length + j]? = XN[caps.getD j 0]? ∧ ∃ x, N[own.length + j]? = some x ∧ (x, NameKind.free) ∈ scope.names ∧ scope.names.lookup x = some .free

def st0 (own : List Str) (caps : List Nat) (σ : St) : St := own.map (fun _ => none) ++ caps.map (fun i => (σ[i]?).join)

def cxComp (X : Cx) (scope : Scope) (C : Addr) (N : List Str) (s : Shared) (H : Hp) (fp : List Addr) : Cx :=
  { X with N := N, s₀ := s, H₀ := H, env := compEnvC scope (clOf X.env scope.names []) C X.env, outer := X.stack, ex := fp, fn := fun _ => false, pn := [], xe := fun _ _ => False }

section
variable {X : Cx} {pins : List (Addr × Obj)} {σ : St} {H : Hp} {s : Shared} {scope : Scope} {N own : List Str} {caps : List Nat} {fp : List Addr} {C : Nat}
theorem CompScope.csome (S : CompScope N own caps X.N X.env.scope scope) (ok : X.Ok) : ∀ y ∈ scope.names, y.2 = .free → (X.env.cells.lookup y.1).isSome = true := fun y hy hf => by
  obtain ⟨c, e⟩ := ok.has y.1 (S.free y hy hf)
  rw [e]; rfl
theorem CompScope.csub (S : CompScope N own caps X.N X.env.scope scope) (ok : X.Ok) {x : Str} {c : Addr} (h : (clOf X.env scope.names []).lookup x = some c) : X.env.cells.lookup x = some c := by
  rw [clOf_lookup _ _ _ (S.csome ok)] at h
  split at h
  · exact h
  · simp at h
theorem CompScope.lookFree {S : CompScope N own caps X.N X.env.scope scope} {x : Str} (h : (relabel scope X.env).names.lookup x = some .cell ∨ (relabel scope X.env).names.lookup x = some .free) : (x, NameKind.free) ∈ scope.names := by
  have e := relabel_lookup X.env scope.names x
  have e' : (relabel scope X.env).names.lookup x = (scope.names.lookup x).map fun k => if (k == .free && X.env.scope.kind == .function && X.env.kindOf x == some .cell) = true then NameKind.cell else k := e
  rw [e'] at h
  cases q : scope.names.lookup x with
  | none => rw [q] at h; simp at h
  | some k =>
    have hm := PySem.mem_of_lookup q
    by_cases hk : k = .free
    · subst hk; exact hm
    · rw [q] at h
      have hb : (k == NameKind.free) = false := by simpa using hk
      simp only [Option.map_some, hb, Bool.false_and, Bool.false_eq_true, if_false] at h
      rcases h with h | h
      · exact absurd (Option.some.inj h) (S.nocell _ hm)
      · exact absurd (Option.some.inj h) hk

/-- the block's context is in order, and its names stand -/
theorem Inv.comp {h1 : Heap} {D : Nat} (I : Inv X pins σ H s) (S : CompScope N own caps X.N X.env.scope scope) (hfp : ∀ b ∈ fp, FpOk X pins H b) (hfo : ∀ b ∈ fp, ∃ o, s.heap.get? b = some o)
    (hD : D = s.heap.objs.size) (hC : C = s.heap.objs.size + 1) (old : ∀ b o, s.heap.get? b = some o → h1.get? b = some o) (hns : h1.Ns C (fun _ => none)) (hl : h1.get? D = some { cls := .type "list", data := .seq #[] }) {t : Nat} :
    Inv (cxComp X scope C N s H fp) [] (st0 own caps σ) (upd H D (.lst [])) { s with heap := h1, toks := t } := by
  have some' := S.csome I.ok
  have sub : ∀ {x c}, (clOf X.env scope.names []).lookup x = some c → X.env.cells.lookup x = some c := fun h => S.csub I.ok h
  have freshD : H D = none := I.hok.fresh (by rw [hD]; exact Nat.le_refl _)
  have freshC : H C = none := I.hok.fresh (by rw [hC]; exact Nat.le_succ _)
  have cellLt : ∀ x c, X.env.cells.lookup x = some c → c < s.heap.objs.size := fun x c e => by
    obtain ⟨v, z⟩ := I.cell x c e
    exact z.lt
  have fpLt : ∀ b ∈ fp, b < s.heap.objs.size := fun b hb => by
    obtain ⟨o, e⟩ := hfo b hb
    exact Heap.lt_size e
  have DC : D ≠ C := by omega
  refine ⟨⟨I.ok.mod, S.kind, I.ok.glob, I.ok.blt, by show s.heap.objs.size ≤ C; omega, fun x y c e1 e2 => I.ok.inj x y c (sub e1) (sub e2), fun x h => ?_, fun x c h => (by cases h), I.ok.hd, I.ok.frames, Or.inl rfl, fun b hb => ⟨?_, fun x c e => ?_⟩, I.bs, Nat.le_trans I.ok.bsz I.sz, fun b o e hb => ?_, fun b hb z => ?_, I.stack, I.stkFree⟩,
    rfl, I.bare, Un.laid old (by show s.heap.objs.size ≤ D; omega) freshD, ⟨_, hns, fun j x v e1 e2 e3 => ?_⟩, fun x c e => ?_, ?_, fun x c e => ?_, fun p hp => ?_, I.hok.laid old (by omega) ?_, ?_⟩
  · have hm := CompScope.lookFree (S := S) (X := X) h
    obtain ⟨c, e⟩ := Option.isSome_iff_exists.mp (some' _ hm rfl)
    exact ⟨c, by show (clOf X.env scope.names []).lookup x = _; rw [clOf_lookup _ _ _ some', if_pos hm]; exact e⟩
  · exact Nat.ne_of_lt (show @LT.lt Nat _ b C by have := natlt (fpLt b hb); omega)
  · exact (hfp b hb).2.2.2.2.1 x c (sub e)
  · rcases (hfp b hb).2.2.2.1 with z | z
    · exact I.ok.noex b o e z
    · exact absurd (Nat.lt_of_lt_of_le (Heap.lt_size e) (Nat.le_trans I.ok.bsz z)) (Nat.lt_irrefl _)
  · rcases List.mem_cons.mp (I.stkSub b z) with q | q
    · exact (hfp b hb).2.1 q
    · exact (hfp b hb).2.2.1 q
  · have e1 : N[j]? = some x := e1
    have hj : own.length ≤ j := by
      by_cases q : own.length ≤ j
      · exact q
      · exfalso
        unfold st0 at e2
        rw [List.getElem?_append_left (by simp; omega), List.getElem?_map] at e2
        cases r : own[j]? with
        | none => rw [r] at e2; cases e2
        | some a => rw [r] at e2; cases e2
    have hjl : j < N.length := (List.getElem?_eq_some_iff.mp e1).1
    have hjc : j - own.length < caps.length := by have := S.len; omega
    obtain ⟨c1, x', c2, c3, c4⟩ := S.cap (j - own.length) hjc
    rw [show own.length + (j - own.length) = j by omega] at c1 c2
    rw [e1] at c2
    cases c2
    have e2' : (σ[caps.getD (j - own.length) 0]?).join = some v := by
      unfold st0 at e2
      rw [List.getElem?_append_right (by simp; omega), List.getElem?_map, List.length_map] at e2
      rw [List.getD_eq_getElem?_getD]
      cases r : caps[j - own.length]? with
      | none => rw [r] at e2; cases e2
      | some a => rw [r] at e2; exact Option.some.inj e2
    have e2'' : σ[caps.getD (j - own.length) 0]? = some (some v) := by
      cases r : σ[caps.getD (j - own.length) 0]? with
      | none => rw [r] at e2'; cases e2'
      | some a => rw [r] at e2'; exact congrArg Option.some e2'
    have kx : X.env.kindOf x = some .cell ∨ X.env.kindOf x = some .free := S.free _ c3 rfl
    obtain ⟨m, hn, hl'⟩ := I.loc
    obtain ⟨u, r, l⟩ := hl' _ x v (by rw [← c1]; exact e1) e2'' (by rcases kx with z | z; exact .inr (.inl z); exact .inr (.inr z))
    refine ⟨u, r, .inr ⟨?_, ?_⟩⟩
    · show (relabel scope X.env).names.lookup x = some .cell ∨ (relabel scope X.env).names.lookup x = some .free
      have e : (relabel scope X.env).names.lookup x = (scope.names.lookup x).map fun k => if (k == .free && X.env.scope.kind == .function && X.env.kindOf x == some .cell) = true then NameKind.cell else k := relabel_lookup X.env scope.names x
      rw [e, c4, Option.map_some]
      split
      · exact .inl rfl
      · exact .inr rfl
    · rcases l with ⟨hk, _⟩ | ⟨_, c, hc, z⟩
      · rcases kx with q | q <;> rw [hk] at q <;> cases q
      · refine ⟨c, ?_, ?_⟩
        · show (clOf X.env scope.names []).lookup x = _
          rw [clOf_lookup _ _ _ some', if_pos c3]; exact hc
        · obtain ⟨o, ho, hd⟩ := z
          exact ⟨o, old c o ho, hd⟩
  · obtain ⟨v, o, ho, hd⟩ := I.cell x c (sub e)
    exact ⟨v, o, old c o ho, hd⟩
  · show upd H D (.lst []) C = none
    rw [upd_ne DC.symm]; exact freshC
  · show upd H D (.lst []) c = none
    rw [upd_ne (Nat.ne_of_lt (by have := natlt (cellLt x c (sub e)); omega))]; exact I.freeC x c (sub e)
  · cases hp
  · exact ⟨Nat.zero_le _, [], 0, .nil, hl⟩
  · show (own.map (fun _ => none) ++ caps.map _).length = N.length
    rw [List.length_append, List.length_map, List.length_map, S.len]

/-- behind the block -/
theorem Inv.uncomp {pins' : List (Addr × Obj)} {σ' : St} {H' : Hp} {s' : Shared} {h' : Heap} (I : Inv X pins σ H s) (hfp : ∀ b ∈ fp, FpOk X pins H b) (hC : s.heap.objs.size ≤ C) (J : Inv (cxComp X scope C N s H fp) pins' σ' H' s') (hs : Heap.SameBut C s'.heap h') :
    Inv X pins σ H' { s' with heap := h' } := by
  have nC : ∀ b o, s.heap.get? b = some o → b ≠ C := fun b o e => Nat.ne_of_lt (by have := natlt (Heap.lt_size e); omega)
  have u := J.base
  have frC : H' C = none := J.free
  refine I.call' (ch := fp) (s' := { s' with heap := h' }) J.os ⟨fun b o e n hb hx => ?_, fun b o e n hb hx => ?_, u.free, fun b o e hx => ?_, u.tups, u.frzs, u.tbls⟩ (fun a o e => (J.hok a o e).stay (fun b v hb q => ?_) (fun _ q => q) fun _ _ q => q) J.bare fun b hb => ?_
  · exact (hs.2 b (nC b o e)).trans (u.keep b o e n hb hx)
  · obtain ⟨sl, q⟩ := u.slot b o e n hb hx
    exact ⟨sl, (hs.2 b (nC b o e)).trans q⟩
  · obtain ⟨o', q⟩ := u.there b o e hx
    exact ⟨o', (hs.2 b (nC b o e)).trans q⟩
  · refine (hs.2 b ?_).trans q
    intro z
    subst z
    rcases hb with z | z
    · subst z; rw [frC] at e; cases e
    · rw [frC] at z; cases z
  · exact ⟨(hfp b hb).2.2.2.1, (hfp b hb).2.1, (hfp b hb).2.2.2.2.1, (hfp b hb).2.2.2.2.2⟩
end

section
variable {prog : Program} {w : World} {A : Around} {R : Result → Shared → Prop} {s : Shared}
theorem compLoop_any {elt target iter : Expr} {ifs : List Expr} {scope : Scope} {pos : Pos} {it acc : Value} {env : Env} (I : Nat → Shared → Prop)
    (turn : ∀ n s, I n s → wpAny (model prog w) A (pyNext it) (fun r s1 => match r with
      | none => R (.ok .next) s1
      | some v => wpAny (model prog w) A (letOwnedTupleGo target it v) (fun _ s1' => wpAny (model prog w) A (assign target env v) (fun _ s2 =>
          wpAny (model prog w) A (forIn ifs true fun c r => if r = true then do let ok ← isTrue c env (eval c env); pure (ForInStep.yield ok) else pure (ForInStep.yield r)) (fun ok s3 =>
            if ok = true then wpAny (model prog w) A (eval elt env) (fun x s4 =>
              wpAny (model prog w) A (call (.builtin "list.append") [acc, x]) (fun _ s5 => ∃ m, m < n ∧ I m s5) (fun _ _ => False) s4) (fun _ _ => False) s3
            else ∃ m, m < n ∧ I m s3) (fun _ _ => False) s2) (fun _ _ => False) s1') (fun _ _ => False) s1) (fun _ _ => False) s)
    (n : Nat) (h : I n s) :
    codeAny (model prog w) A (.compLoop (.ListComp elt [⟨target, iter, ifs, 0⟩] scope pos) 0 it acc env) R s := by
  refine codeAny_loop rfl I (fun n s hI => ?_) n h
  show wpAny _ A ((compTurn (.ListComp elt [⟨target, iter, ifs, 0⟩] scope pos) 0 it acc env).onRaise (fun x => do noteFrame x env; theTreesLotGoes x)) _ _ s
  refine wpAny_noted ?_
  rw [compTurn_list]
  refine wpAny_bind (wpAny_standAt (wpAny_bind (wpAny_mono (turn n s hI) (fun r s1 h1 => ?_) fun _ _ h' => h'.elim)))
  cases r with
  | none => exact wpAny_pure h1
  | some v =>
    refine wpAny_bind (wpAny_mono h1 (fun _ s1' h1' => ?_) fun _ _ h' => h'.elim)
    refine wpAny_bind (wpAny_mono h1' (fun _ s2 h2 => wpAny_bind (wpAny_mono h2 (fun ok s3 h3 => ?_) fun _ _ h' => h'.elim)) fun _ _ h' => h'.elim)
    cases ok with
    | false => exact wpAny_pure ⟨rfl, h3⟩
    | true =>
      exact wpAny_bind (wpAny_bind (wpAny_mono h3 (fun x s4 h4 => wpAny_bind (wpAny_mono h4 (fun _ s5 h5 => wpAny_pure (wpAny_pure ⟨rfl, h5⟩)) fun _ _ h' => h'.elim)) fun _ _ h' => h'.elim))
end

/-- the tests of a comprehension -/
def PTs (X : Cx) (ifs : List Expr) (t : TT) : Prop :=
  ∀ (pins : List (Addr × Obj)) (s : Shared) (σ : St) (H : Hp) (Q : Bool → Hp → Prop), Inv X pins σ H s → t σ H Q →
    wpAny (model X.prog X.w) X.A (forIn ifs true fun c r => if r = true then do let ok ← isTrue c X.env (eval c X.env); pure (ForInStep.yield ok) else pure (ForInStep.yield r)) (TP X pins σ Q) X.xe s
def tAll : TT := fun _ H Q => Q true H
theorem pts_nil {X : Cx} : PTs X [] tAll := fun _ _ _ H _ I h => wpAny_tests_nil ⟨H, I, h⟩
theorem pts_one {X : Cx} {c : Expr} {t : TT} (h : PT X c t) : PTs X [c] t := fun pins s σ H Q I q => wpAny_tests_one (h pins s σ H Q I q)

/-- [e for target in iter if c]: W between two turns; the list grows at D; N: what the turn is to reach -/
def CompW (J : It) (g : TG) (tc : TT) (te : TE) (Q : VK) (D : Addr) (σ0 : St) (H1 : Hp) : Prop :=
  ∃ W : Nat → Nat → St → Hp → Prop, (∃ m, W 0 m σ0 (upd H1 D (.lst []))) ∧ ∀ i m σ H, W i m σ H →
    (J.stop i H ∧ Q (.ref D) H) ∨ (J.go i H ∧ ∃ N : St → Hp → Prop, (∀ σ' H', N σ' H' → ∃ m', m' < m ∧ W (i + 1) m' σ' H') ∧ ∀ x H', J.yld i H x H' → g x σ H' fun σ2 H2 => tc σ2 H2 fun b H3 =>
      if b = true then te σ2 H3 fun y H4 => ∃ acc, H4 D = some (.lst acc) ∧ acc.length < sizeLine ∧ N σ2 (upd H4 D (.lst (acc ++ [y]))) else N σ2 H3)
def tComp (own : List Str) (caps : List Nat) (wi : TI) (g : TG) (tc : TT) (te : TE) : TE := fun σ H Q => wi σ H fun J H1 => ∀ D, H1 D = none → CompW J g tc te Q D (st0 own caps σ) H1

section
variable {X : Cx} {elt tg iter : Expr} {ifs : List Expr} {scope : Scope} {pos : Pos} {N own : List Str} {caps : List Nat} {wi : TI} {g : TG} {tc : TT} {te : TE}
/-- the block run: from the iterator to the list -/
theorem comp_run {use : Option (Value → Sem Unit)} {Qv : Value → Shared → Prop} {pins : List (Addr × Obj)} {σ : St} {H : Hp} {s : Shared} {Q : VK} (hc : X.calm = true) (S : CompScope N own caps X.N X.env.scope scope)
    (hg : ∀ C s H fp, PG (cxComp X scope C N s H fp) tg g) (hcs : ∀ C s H fp, PTs (cxComp X scope C N s H fp) ifs tc) (he : ∀ C s H fp, PE (cxComp X scope C N s H fp) elt te)
    (hi : PI X tg iter wi) (hs : ∀ x, foldedSetIterable iter X.env x = pure x)
    (I : Inv X pins σ H s) (h : tComp own caps wi g tc te σ H Q)
    (fin : ∀ (D C : Addr) (H' : Hp) (s' : Shared), (∃ m, s'.heap.Ns C m) → Inv X pins σ H' s' → (∀ h', Heap.SameBut C s'.heap h' → Inv X pins σ H' { s' with heap := h' }) → FpOk X pins H' C → Q (.ref D) H' →
      compPost (model X.prog X.w) X.A X.xe use Qv (.ref D) C (.ok .next) s') :
    wpAny (model X.prog X.w) X.A (comprehension (.ListComp elt [⟨tg, iter, ifs, 0⟩] scope pos) scope X.env (firstIterPos [⟨tg, iter, ifs, 0⟩] pos) (newList []) false (eval iter X.env) use) Qv X.xe s := by
  refine wpAny_comprehension_free (use := use) rfl hs (closure_eq (S.csome I.ok)) S.kind S.names (thn (hi pins s σ H _ I h) fun xv s1 h1 => thn h1 fun itv s2 h2 => ?_)
  obtain ⟨it, fp, tn, J, H2, e, I2, T, st2, f2, q2⟩ := h2
  subst e
  refine wpAny_newList ?_
  refine wpAny_newFunctionEnv S.nocell (by intro y hy; simp at hy) (fun h1 hns1 hsb1 => ?_) S.kind
  dsimp only at hns1 hsb1 ⊢
  have hD : H2 s2.heap.objs.size = none := I2.hok.fresh (Nat.le_refl _)
  have hsz : (s2.heap.push { cls := .type "list", data := .seq ([] : List Value).toArray }).objs.size = s2.heap.objs.size + 1 := Heap.size_push ..
  have old : ∀ b o, s2.heap.get? b = some o → h1.get? b = some o := fun b o e => by
    refine hsb1.extBut b o (Nat.ne_of_lt (by have := natlt (Heap.lt_size e); rw [hsz]; omega)) (Heap.get?_push_of_some _ (Heap.get?_push_of_some _ e))
  have hl : h1.get? s2.heap.objs.size = some { cls := .type "list", data := .seq #[] } :=
    hsb1.extBut _ _ (Nat.ne_of_lt (by rw [hsz]; omega)) (Heap.get?_push_of_some _ (Heap.get?_push_size _ rfl))
  have hfo : ∀ b ∈ fp, ∃ o, s2.heap.get? b = some o := fun b hb => let ⟨o, e, _⟩ := T.obj _ _ st2 b hb; ⟨o, e⟩
  have I4 := Inv.comp (C := (s2.heap.push { cls := .type "list", data := .seq ([] : List Value).toArray }).objs.size) (t := s2.toks + ([] : List (Str × Value)).length) I2 S f2 hfo rfl hsz old hns1 hl
  obtain ⟨W, ⟨m0, w0⟩, turn⟩ := q2 _ hD
  generalize hCe : (s2.heap.push { cls := .type "list", data := .seq ([] : List Value).toArray }).objs.size = C at *
  generalize hDe : s2.heap.objs.size = D at *
  have hDC : D ≠ C := by omega
  -- the loop
  have loop : ∀ s3 : Shared, s3 = { s2 with heap := h1, toks := s2.toks + ([] : List (Str × Value)).length } →
      codeAny (model X.prog X.w) X.A (.compLoop (.ListComp elt [⟨tg, iter, ifs, 0⟩] scope pos) 0 (.ref it) (.ref D) (cxComp X scope C N s2 H2 fp).env) (compPost (model X.prog X.w) X.A X.xe use Qv (.ref D) C) s3 := by
    rintro s3 rfl
    have frz : ∀ b ∈ fp, (upd H2 D (.lst [])) b = none := fun b hb => by
      obtain ⟨o, e⟩ := hfo b hb
      rw [upd_ne (Nat.ne_of_lt (by have := natlt (Heap.lt_size e); omega))]
      exact (f2 b hb).1
    have stat : ∀ {H' : Hp}, (∀ b ∈ fp, H' b = none) → ∀ b ∈ fp, FpOk (cxComp X scope C N s2 H2 fp) [] H' b := fun hn b hb => by
      obtain ⟨o, e⟩ := hfo b hb
      have hlt := natlt (Heap.lt_size e)
      refine ⟨hn b hb, ?_, fun z => ?_, .inl hb, fun x c e' => (f2 b hb).2.2.2.2.1 x c (S.csub I2.ok e'), fun p hp => (by cases hp)⟩
      · exact Nat.ne_of_lt (show @LT.lt Nat _ b C by omega)
      · rcases List.mem_cons.mp (I2.stkSub b z) with q | q
        · exact (f2 b hb).2.1 q
        · exact (f2 b hb).2.2.1 q
    refine compLoop_any (fun n s' => ∃ i σ' H', Inv (cxComp X scope C N s2 H2 fp) [] σ' H' s' ∧ tn i s'.heap ∧ (∀ b ∈ fp, H' b = none) ∧ W i n σ' H') ?_ m0
      ⟨0, _, _, I4, T.keep _ _ _ st2 fun b _ o e => old b o e, frz, w0⟩
    rintro n s3 ⟨i, σ3, H3, I3, st3, fr3, w3⟩
    rcases turn i n σ3 H3 w3 with ⟨stop, qn⟩ | ⟨go, Nx, hNx, step⟩
    · refine thn (T.done (cxComp X scope C N s2 H2 fp) rfl rfl rfl hc i [] s3 σ3 H3 _ I3 (stat fr3) st3 stop) fun r s4 ⟨hr, J4⟩ => ?_
      subst hr
      obtain ⟨m4, hn4, _⟩ := J4.loc
      exact fin D C H3 s4 ⟨m4, hn4⟩ (I2.uncomp f2 (by omega) J4 (Heap.SameBut.refl _ _)) (fun h' hs' => I2.uncomp f2 (by omega) J4 hs') (I2.fpOk (show s2.heap.objs.size ≤ C by omega) J4.free) qn
    · refine thn (T.item (cxComp X scope C N s2 H2 fp) rfl rfl rfl hc i [] s3 σ3 H3 _ I3 (stat fr3) st3 go) fun r s4 ⟨u, hr, h4⟩ => ?_
      subst hr
      refine thn h4 fun _ s5 ⟨x, H5, I5, r5, y5, st5, fr5⟩ => ?_
      have I5' := I5.pinned (stat fr5) (T.obj _ _ st5)
      refine thn (hg C s2 H2 fp _ s5 σ3 H5 x u _ I5' r5 (step x H5 y5)) fun _ s6 ⟨σ6, H6, I6, q6⟩ => ?_
      refine thn (hcs C s2 H2 fp _ s6 σ6 H6 _ I6 q6) fun ok s7 ⟨H7, I7, q7⟩ => ?_
      have again : ∀ {σ8 : St} {H8 : Hp} {s8 : Shared}, Inv (cxComp X scope C N s2 H2 fp) ([] ++ pinsAt fp s5.heap) σ8 H8 s8 → Nx σ8 H8 → ∃ m, m < n ∧ ∃ i σ' H', Inv (cxComp X scope C N s2 H2 fp) [] σ' H' s8 ∧ tn i s8.heap ∧ (∀ b ∈ fp, H' b = none) ∧ W i m σ' H' := fun {σ8 H8 s8} I8 n8 => by
        obtain ⟨m', hm, w8⟩ := hNx _ _ n8
        refine ⟨m', hm, i + 1, σ8, H8, I8.unpinned, T.keep _ _ _ st5 fun b hb o e => (I8.pin (b, o) (List.mem_append_right _ (List.mem_append_right _ (mem_pinsAt hb e)))).1, fun b hb => ?_, w8⟩
        obtain ⟨o, e, d⟩ := T.obj _ _ st5 b hb
        exact (I8.pin (b, o) (List.mem_append_right _ (List.mem_append_right _ (mem_pinsAt hb e)))).2.1
      cases ok with
      | false =>
        rw [if_neg (by decide)] at q7
        exact again I7 q7
      | true =>
        rw [if_pos rfl] at q7
        refine thn (he C s2 H2 fp _ s7 σ6 H7 _ I7 q7) fun y s8 ⟨yv, H8, I8, r8, acc, ha, hlen, q8⟩ => ?_
        exact thn (mt_append _ s8 σ6 H8 (.ref D) [yv] (.ref D) [y] (fun v H9 => Nx σ6 H9) I8 rfl (.cons r8 .nil) ⟨D, acc, yv, rfl, rfl, ha, hlen, q8⟩) fun _ s9 ⟨_, H9, I9, _, q9⟩ => again I9 q9
  exact codeAny_compStart_list (loop _ rfl) (T.self _ 0 _ _ _ (T.keep _ _ _ st2 fun b _ o e => old b o e) (loop _ rfl))

theorem pe_comp (hc : X.calm = true) (S : CompScope N own caps X.N X.env.scope scope) (hi : PI X tg iter wi)
    (hg : ∀ C s H fp, PG (cxComp X scope C N s H fp) tg g) (hcs : ∀ C s H fp, PTs (cxComp X scope C N s H fp) ifs tc) (he : ∀ C s H fp, PE (cxComp X scope C N s H fp) elt te)
    (hs : ∀ x, foldedSetIterable iter X.env x = pure x := by intro _; rfl) : PE X (.ListComp elt [⟨tg, iter, ifs, 0⟩] scope pos) (tComp own caps wi g tc te) := by
  intro pins s σ H Q I h
  rw [eval_ListComp]
  refine comp_run (use := none) hc S hg hcs he hi hs I h ?_
  intro D C H' s' hn I' hk _ q
  obtain ⟨m, hn⟩ := hn
  exact ⟨m, hn, fun h' hs' => ⟨.ref D, H', hk h' hs', rfl, q⟩⟩
/-- x = [e for ..] on one row: the name is stored ahead of the block's names being let go -/
theorem ps_setC {i : Nat} {x : Str} {px sp : Pos} (hc : X.calm = true) (hN : X.N.Nodup) (hx : X.N[i]? = some x) (hl : Loc X.env.scope x) (S : CompScope N own caps X.N X.env.scope scope) (hi : PI X tg iter wi)
    (hg : ∀ C s H fp, PG (cxComp X scope C N s H fp) tg g) (hcs : ∀ C s H fp, PTs (cxComp X scope C N s H fp) ifs tc) (he : ∀ C s H fp, PE (cxComp X scope C N s H fp) elt te)
    (hsw : swapsWith (.ListComp elt [⟨tg, iter, ifs, 0⟩] scope pos) (some (.Name x px)) sp.line X.env = pure true := by rfl)
    (hs : ∀ x, foldedSetIterable iter X.env x = pure x := by intro _; rfl) (hf : X.fn x = true ∨ X.env.scope.names.lookup x = some .local := by first | exact .inl rfl | exact .inr rfl | assumption) :
    PS X (.Assign [.Name x px] (.ListComp elt [⟨tg, iter, ifs, 0⟩] scope pos) sp) (tAsg (tComp own caps wi g tc te) (gName i)) := by
  intro pins s σ H D I h
  rw [exec_Assign_Name_used _ _ _ _ hsw]
  refine wpAny_bind (wpAny_standAt (wpAny_bind ?_))
  show wpAny _ X.A (do let _ ← comprehension (.ListComp elt [⟨tg, iter, ifs, 0⟩] scope pos) scope X.env (firstIterPos [⟨tg, iter, ifs, 0⟩] pos) (newList []) false (eval iter X.env) (some (assign (.Name x px) X.env))) _ _ s
  refine wpAny_bind (wpAny_mono (comp_run (use := some (assign (.Name x px) X.env)) (Qv := fun _ s' => SP X pins D .next s') hc S hg hcs he hi hs I h ?_) (fun _ s' hq => wpAny_pure (wpAny_pure hq)) fun _ _ e => e)
  intro E C H' s' hn I' hk fC q
  obtain ⟨m, hn⟩ := hn
  obtain ⟨f0, f1, f2, f3, f4, f5⟩ := fC
  show wpAny _ X.A (assign (.Name x px) X.env (.ref E)) _ _ _
  refine wpAny_assign_Name (store_ok2 I' hN hx hl (v := .ref E) rfl (fun s2 I2 k => ?_) hf)
  refine ⟨m, ?_, fun h' hs' => ?_⟩
  · obtain ⟨o, es, ep, ho, r⟩ := hn
    obtain ⟨a, ks, ka⟩ := k
    have hCa : C ≠ a := fun z => by
      rcases ka with q' | q'
      · exact f1 (z.trans q')
      · exact f4 x a q' z.symm
    exact ⟨o, es, ep, (ks.2 C hCa).trans ho, r⟩
  · exact ⟨_, H', I2.turned (t' := s2.toks) (fun b o hb e => (hs'.2 b hb).trans e) f0 f1 f3 f4 f5, q⟩
end
/-- the names of a block, checked -/
def compOk (N own : List Str) (caps : List Nat) (XN : List Str) (outer scope : Scope) : Bool :=
  decide (scope.kind = .function) && scope.names.all (fun y => decide (y.2 ≠ .cell)) && scope.names.all (fun y => decide (y.2 ≠ .local) || decide (scope.names.lookup y.1 = some .local)) &&
  scope.names.all (fun y => decide (y.2 ≠ .free) || decide (outer.names.lookup y.1 = some .cell) || decide (outer.names.lookup y.1 = some .free)) && decide N.Nodup && decide (N.length = own.length + caps.length) &&
  (List.range caps.length).all (fun j => match N[own.length + j]? with | some x => decide (XN[caps.getD j 0]? = some x) && decide ((x, NameKind.free) ∈ scope.names) && decide (scope.names.lookup x = some .free) | none => false)
theorem CompScope.of {N own : List Str} {caps : List Nat} {XN : List Str} {outer scope : Scope} (h : compOk N own caps XN outer scope = true) : CompScope N own caps XN outer scope := by
  unfold compOk at h
  simp only [Bool.and_eq_true, decide_eq_true_eq, List.all_eq_true, Bool.or_eq_true] at h
  obtain ⟨⟨⟨⟨⟨⟨h1, h2⟩, h3⟩, h4⟩, h5⟩, h6⟩, h7⟩ := h
  refine ⟨h1, h2, fun y hy e => ?_, fun y hy e => ?_, h5, h6, fun j hj => ?_⟩
  · rcases h3 y hy with z | z
    · exact absurd e z
    · exact z
  · rcases h4 y hy with (z | z) | z
    · exact absurd e z
    · exact .inl z
    · exact .inr z
  · have q := h7 j (List.mem_range.mpr hj)
    cases e : N[own.length + j]? with
    | none => rw [e] at q; cases q
    | some x =>
      rw [e] at q
      simp only [Bool.and_eq_true, decide_eq_true_eq] at q
      exact ⟨q.1.1.symm, x, rfl, q.1.2, q.2⟩
end L2
set_option Elab.async false
set_option linter.all false
set_option maxRecDepth 100000
set_option maxHeartbeats 4000000
namespace L2
open PySem PySem.Spec PyProof.Rows

/-! ### plain data at a heap -/
mutual
def Dat (H : Hp) : V → PyData → Prop
  | v, .none => v = .non
  | v, .bool b => v = .bl b
  | v, .int i => v = .int i
  | v, .str x => v = .str x
  | v, .list ds => ∃ a vs, v = .ref a ∧ H a = some (.lst vs) ∧ Dats H vs ds
  | v, .tuple ds => ∃ a vs, v = .ref a ∧ H a = some (.tup vs) ∧ Dats H vs ds
  | _, .dict _ => False
def Dats (H : Hp) : List V → List PyData → Prop
  | [], [] => True
  | v :: vs, d :: ds => Dat H v d ∧ Dats H vs ds
  | [], _ :: _ => False
  | _ :: _, [] => False
end
section
variable {H H' : Hp}
theorem Dats.length : ∀ {vs : List V} {ds : List PyData}, Dats H vs ds → vs.length = ds.length
  | [], [], _ => rfl
  | _ :: _, _ :: _, h => by simp only [Dats] at h; simp [Dats.length h.2]
  | [], _ :: _, h => by simp only [Dats] at h
  | _ :: _, [], h => by simp only [Dats] at h
theorem Dats.getD : ∀ {vs : List V} {ds : List PyData} {i : Nat} {d : PyData}, Dats H vs ds → ds[i]? = some d → ∃ v, vs[i]? = some v ∧ Dat H v d
  | _ :: _, _ :: _, 0, _, h, e => by simp only [Dats] at h; simp at e; subst e; exact ⟨_, rfl, h.1⟩
  | _ :: _, _ :: _, i + 1, _, h, e => by simp only [Dats] at h; simp at e; obtain ⟨d, q, r⟩ := Dats.getD h.2 e; exact ⟨d, by simpa using q, r⟩
  | [], [], _, _, _, e => by simp at e
  | [], _ :: _, _, _, h, _ => by simp only [Dats] at h
  | _ :: _, [], _, _, h, _ => by simp only [Dats] at h
theorem Dats.append : ∀ {vs ws : List V} {ds es : List PyData}, Dats H vs ds → Dats H ws es → Dats H (vs ++ ws) (ds ++ es)
  | [], _, [], _, _, g => g
  | _ :: _, _, _ :: _, _, h, g => by simp only [Dats, List.cons_append] at h ⊢; exact ⟨h.1, Dats.append h.2 g⟩
  | [], _, _ :: _, _, h, _ => by simp only [Dats] at h
  | _ :: _, _, [], _, h, _ => by simp only [Dats] at h
theorem Dats.ints (ns : List Int) : Dats H (ns.map V.int) (ns.map PyData.int) := by
  induction ns with
  | nil => simp only [List.map_nil, Dats]
  | cons n r ih => simp only [List.map_cons, Dats, Dat]; exact ⟨trivial, ih⟩
mutual
theorem Dat.mono (hl : ∀ a xs, H a = some (HO.lst xs) → H' a = some (HO.lst xs)) (ht : ∀ a xs, H a = some (HO.tup xs) → H' a = some (HO.tup xs)) : ∀ (d : PyData) {v : V}, Dat H v d → Dat H' v d
  | .none, _, h => by simp only [Dat] at h ⊢; exact h
  | .bool _, _, h => by simp only [Dat] at h ⊢; exact h
  | .int _, _, h => by simp only [Dat] at h ⊢; exact h
  | .str _, _, h => by simp only [Dat] at h ⊢; exact h
  | .list ds, _, h => by simp only [Dat] at h ⊢; obtain ⟨a, vs, e, q, r⟩ := h; exact ⟨a, vs, e, hl _ _ q, Dats.mono hl ht ds r⟩
  | .tuple ds, _, h => by simp only [Dat] at h ⊢; obtain ⟨a, vs, e, q, r⟩ := h; exact ⟨a, vs, e, ht _ _ q, Dats.mono hl ht ds r⟩
  | .dict _, _, h => by simp only [Dat] at h
theorem Dats.mono (hl : ∀ a xs, H a = some (HO.lst xs) → H' a = some (HO.lst xs)) (ht : ∀ a xs, H a = some (HO.tup xs) → H' a = some (HO.tup xs)) : ∀ (ds : List PyData) {vs : List V}, Dats H vs ds → Dats H' vs ds
  | [], [], _ => by simp only [Dats]
  | d :: ds, v :: vs, h => by simp only [Dats] at h ⊢; exact ⟨Dat.mono hl ht d h.1, Dats.mono hl ht ds h.2⟩
  | _ :: _, [], h => by simp only [Dats] at h
  | [], _ :: _, h => by simp only [Dats] at h
end
mutual
/-- no list within -/
def imm : PyData → Bool
  | .tuple ds => imms ds
  | .list _ | .dict _ => false
  | .none | .bool _ | .int _ | .str _ => true
def imms : List PyData → Bool
  | [] => true
  | d :: ds => imm d && imms ds
end
mutual
theorem Dat.keep (ht : ∀ a xs, H a = some (HO.tup xs) → H' a = some (HO.tup xs)) : ∀ (d : PyData) {v : V}, imm d = true → Dat H v d → Dat H' v d
  | .none, _, _, h => by simp only [Dat] at h ⊢; exact h
  | .bool _, _, _, h => by simp only [Dat] at h ⊢; exact h
  | .int _, _, _, h => by simp only [Dat] at h ⊢; exact h
  | .str _, _, _, h => by simp only [Dat] at h ⊢; exact h
  | .list ds, _, i, h => by simp only [imm] at i; cases i
  | .tuple ds, _, i, h => by simp only [Dat] at h ⊢; simp only [imm] at i; obtain ⟨a, vs, e, q, r⟩ := h; exact ⟨a, vs, e, ht _ _ q, Dats.keep ht ds i r⟩
  | .dict _, _, _, h => by simp only [Dat] at h
theorem Dats.keep (ht : ∀ a xs, H a = some (HO.tup xs) → H' a = some (HO.tup xs)) : ∀ (ds : List PyData) {vs : List V}, imms ds = true → Dats H vs ds → Dats H' vs ds
  | [], [], _, _ => by simp only [Dats]
  | d :: ds, v :: vs, i, h => by simp only [Dats] at h ⊢; simp only [imms, Bool.and_eq_true] at i; exact ⟨Dat.keep ht d i.1 h.1, Dats.keep ht ds i.2 h.2⟩
  | _ :: _, [], _, h => by simp only [Dats] at h
  | [], _ :: _, _, h => by simp only [Dats] at h
end
theorem imms_map {α : Type} (f : α → PyData) (h : ∀ x, imm (f x) = true) : ∀ l : List α, imms (l.map f) = true
  | [] => rfl
  | a :: l => by simp only [List.map_cons, imms, h a, imms_map f h l, Bool.and_self]
end

section
variable {X : Cx} {pins : List (Addr × Obj)} {σ : St} {H : Hp} {s : Shared}
mutual
theorem Inv.reads (I : Inv X pins σ H s) : ∀ (d : PyData) {v : V} {u : Value}, Dat H v d → RelV v u → ∃ as, Reads s.heap u d as
  | .none, v, u, h, r => by
    simp only [Dat] at h; subst h; cases (show u = Value.none from r); exact ⟨_, .none⟩
  | .bool b, v, u, h, r => by
    simp only [Dat] at h; subst h; cases (show u = Value.bool b from r); exact ⟨_, .bool b⟩
  | .int i, v, u, h, r => by
    simp only [Dat] at h; subst h; obtain ⟨t, q⟩ := (show ∃ t, u = Value.int i t from r); cases q; exact ⟨_, .int i t⟩
  | .str x, v, u, h, r => by
    simp only [Dat] at h; subst h; obtain ⟨t, q⟩ := (show ∃ t, u = Value.str x t from r); cases q; exact ⟨_, .str x t⟩
  | .list ds, v, u, h, r => by
    simp only [Dat] at h
    obtain ⟨a, vs, rfl, q, g⟩ := h
    cases (show u = Value.ref a from r)
    obtain ⟨its, rv, p, hz⟩ := I.list (SqL.of q)
    obtain ⟨o, ho, hc, n, hd⟩ := p.isList
    obtain ⟨as, ra⟩ := Inv.readsAll I ds g rv
    exact ⟨_, .list ho hc hd (by simpa using ra)⟩
  | .tuple ds, v, u, h, r => by
    simp only [Dat] at h
    obtain ⟨a, vs, rfl, q, g⟩ := h
    cases (show u = Value.ref a from r)
    obtain ⟨its, rv, p, hz⟩ := I.tuple (SqT.of q)
    obtain ⟨o, ho, hc, n, hd⟩ := p
    obtain ⟨as, ra⟩ := Inv.readsAll I ds g rv
    exact ⟨_, .tuple ho hc hd (by simpa using ra)⟩
  | .dict _, _, _, h, _ => by simp only [Dat] at h
theorem Inv.readsAll (I : Inv X pins σ H s) : ∀ (ds : List PyData) {vs : List V} {us : List Value}, Dats H vs ds → Vals vs us → ∃ as, ReadsAll s.heap us ds as
  | [], [], _, _, .nil => ⟨_, .nil⟩
  | d :: ds, v :: vs, _, h, .cons r rs => by
    simp only [Dats] at h
    obtain ⟨as, ra⟩ := Inv.reads I d h.1 r
    obtain ⟨bs, rb⟩ := Inv.readsAll I ds h.2 rs
    exact ⟨_, .cons ra rb⟩
  | _ :: _, [], _, h, _ => by simp only [Dats] at h
  | [], _ :: _, _, h, _ => by simp only [Dats] at h
end
/-- == and != of data -/
def rEqD (neg : Bool) : R2 := fun x y H Q => ∃ d e, Dat H x d ∧ Dat H y e ∧ SeqAt.shaped d = true ∧ SeqAt.shaped e = true ∧ Q (.bl (if neg then !PyData.eqv d e else PyData.eqv d e)) H
theorem op_eqD (hu : X.A.units + 64 < cLine) : OpR X (compareOp .Eq) (rEqD false) := by
  intro pins s σ H x y v u Q I rx ry h
  obtain ⟨d, e, h1, h2, s1, s2, q⟩ := h
  obtain ⟨as, ra⟩ := I.reads d h1 rx
  obtain ⟨bs, rb⟩ := I.reads e h2 ry
  exact SeqAt.compareEq_shaped ra rb s1 s2 hu ⟨.bl _, H, I, rfl, q⟩
theorem op_neD (hu : X.A.units + 64 < cLine) : OpR X (compareOp .NotEq) (rEqD true) := by
  intro pins s σ H x y v u Q I rx ry h
  obtain ⟨d, e, h1, h2, s1, s2, q⟩ := h
  obtain ⟨as, ra⟩ := I.reads d h1 rx
  obtain ⟨bs, rb⟩ := I.reads e h2 ry
  exact SeqAt.compareNe_shaped ra rb s1 s2 hu ⟨.bl _, H, I, rfl, q⟩

/-! ### isinstance -/
/-- isinstance(x, c): c's value is known -/
theorem call_isi {c : Value} {cv : V} (rc : RelV cv c) : CallR X (.builtin "isinstance") (fun xs H Q => ∃ x t b, xs = [x, cv] ∧ TyOf X.K H x t ∧ PySem.W.kitOne X.K t c = some b ∧ Q (.bl b) H) := by
  intro pins s σ H xs us Q I r h
  obtain ⟨x, t, b, rfl, ty, e, q⟩ := h
  obtain ⟨u, w', rfl, r1, r2⟩ := vals2 r
  have : w' = c := by
    cases cv with
    | non => exact (show w' = Value.none from r2).trans (show c = Value.none from rc).symm
    | bl b => exact (show w' = Value.bool b from r2).trans (show c = Value.bool b from rc).symm
    | ref a => exact (show w' = Value.ref a from r2).trans (show c = Value.ref a from rc).symm
    | ty n => exact (show w' = Value.type n from r2).trans (show c = Value.type n from rc).symm
    | int i => obtain ⟨t1, rfl⟩ := (show ∃ t, c = Value.int i t from rc); unfold PySem.W.kitOne at e; exact absurd e (by cases ty <;> simp [PySem.W.kitCls])
    | str i => obtain ⟨t1, rfl⟩ := (show ∃ t, c = Value.str i t from rc); unfold PySem.W.kitOne at e; exact absurd e (by cases ty <;> simp [PySem.W.kitCls])
    | byt i => obtain ⟨t1, rfl⟩ := (show ∃ t, c = Value.bytes i t from rc); unfold PySem.W.kitOne at e; exact absurd e (by cases ty <;> simp [PySem.W.kitCls])
    | flt i => obtain ⟨t1, rfl⟩ := (show ∃ t, c = Value.float i t from rc); unfold PySem.W.kitOne at e; exact absurd e (by cases ty <;> simp [PySem.W.kitCls])
  subst this
  exact isinst_ok I r1 ty e fun tk => ⟨.bl b, H, I.tok _, rfl, q⟩
end

/-! ### all, any over a list of bools -/
section
variable {prog : Program} {w : World} {A : Around}
theorem walks_list (hh : A.handled = none) (it a : Addr) (hne : it ≠ a) (its : List Value) : Walks prog w A it [it, a] [it] its.length (fun i v => its[i]? = some v) (fun i h => h.IsListIter it a i ∧ h.IsList a its.toArray) where
  sub := by simp
  frame := fun i h h' ⟨s1, o, ho, hc⟩ k => ⟨s1.at fun o e => k it (by simp) o e, o, k a (by simp) o ho, hc⟩
  item := fun i s Q E hi ⟨s1, s2⟩ hQ => wpAny_pyNext_list_item s1 s2 (x := its[i]) (by simp [hi]) fun h' st' sb =>
    hQ _ h' s.toks (by simp [hi]) ⟨st', s2.extBut sb.extBut hne.symm⟩ fun b o hb e => (sb.2 b (by simpa using hb)).trans e
  done := fun s Q E ⟨s1, s2⟩ hQ => wpAny_pyNext_list_end hh s1 s2 (by simp) fun h' eb => hQ h' s.toks fun b o hb e => eb b o (by simpa using hb) e
  self := fun i s Q E ⟨s1, _⟩ hQ => wpAny_pyIter_listiter s1 hQ
end
section
variable {X : Cx}
theorem range_all_get (bs : List Bool) : (List.range bs.length).all (fun i => (bs[i]?).getD false) = bs.all id := by
  rw [Bool.eq_iff_iff, List.all_eq_true, List.all_eq_true]
  constructor
  · intro h b hb
    obtain ⟨i, hi, rfl⟩ := List.getElem_of_mem hb
    have := h i (by simpa using hi)
    simpa [hi] using this
  · intro h i hi
    have hi' : i < bs.length := by simpa using hi
    simpa [hi'] using h bs[i] (List.getElem_mem hi')
theorem vals_bools {bs : List Bool} : ∀ {us : List Value}, Vals (bs.map V.bl) us → us = bs.map Value.bool := by
  induction bs with
  | nil => intro us r; cases r; rfl
  | cons b bs ih =>
    intro us r
    cases r with
    | cons r rs => cases (show _ = Value.bool b from r); rw [ih rs]; rfl
theorem call_all_bools (hc : X.calm = true) : CallR X (.builtin "all") (fun xs H Q => ∃ (p : Addr) (bs : List Bool), xs = [.ref p] ∧ SqL X.K H p (bs.map V.bl) ∧ Q (.bl (bs.all id)) H) := by
  intro pins s σ H xs us Q I r h
  obtain ⟨p, bs, rfl, hq, q⟩ := h
  obtain ⟨u, rfl, rx⟩ := vals1 r
  cases rx
  obtain ⟨its, rv, pl, hz⟩ := I.list hq
  have e := vals_bools rv
  have hlen : its.length = bs.length := by rw [e, List.length_map]
  refine call_all_walk (wpAny_pyIter_list pl.isList ⟨s.heap.objs.size, [s.heap.objs.size, p], [s.heap.objs.size], its.length, _, _, fun i => (bs[i]?).getD false, rfl,
    walks_list (show X.A.in1.handled = none from I.ok.hd hc) s.heap.objs.size p ?_ its, ⟨⟨_, Heap.get?_push_size _ rfl, rfl, rfl⟩, ?_⟩, ?_, ?_⟩)
  · intro z
    obtain ⟨o, ho, _⟩ := pl.isList
    have := Heap.lt_size ho
    rw [← z] at this
    exact Nat.lt_irrefl _ this
  · obtain ⟨o, ho, hcl⟩ := pl.isList
    exact ⟨o, Heap.get?_push_of_some _ ho, hcl⟩
  · intro i v s1 Q1 E1 hP hQ
    rw [e, List.getElem?_map] at hP
    cases r : bs[i]? with
    | none => rw [r] at hP; cases hP
    | some b =>
      rw [r] at hP
      cases hP
      simp only [r, Option.getD_some] at hQ
      exact wpAny_truthy_bool hQ
  · intro h' tk k
    rw [hlen, range_all_get]
    have f := I.fpOk (H' := H) (b := s.heap.objs.size) (Nat.le_refl _) (I.hok.fresh (Nat.le_refl _))
    have I2 : Inv X pins σ H { s with heap := h', toks := tk } := I.turned (h' := h') (t' := tk) (it := s.heap.objs.size) (fun b o hb e => k b o (by simpa using hb) (Heap.get?_push_of_some _ e)) f.1 f.2.1 f.2.2.2.1 f.2.2.2.2.1 f.2.2.2.2.2
    exact ⟨.bl _, H, I2, rfl, q⟩
end
end L2
set_option Elab.async false
set_option linter.all false
set_option maxRecDepth 100000
set_option maxHeartbeats 4000000
namespace L2
open PySem PySem.Spec PyProof.Rows

/-! ### a def of the text, called by its name; no exception leaves it -/
def FnAt (P : Program) (w : World) (K : PySem.W.Frag) (mg : Str → Option Value) (base : Heap) (k : Nat) (x : Str) (ps : List Str) (sp : Sp) : Prop :=
  ∃ f fd, FnOk P w K mg base CX0 k f fd ps sp ∧ mg x = some (.ref f) ∧ PySem.W.keepIn K (.ref f) = true ∧ Binds K fd ps []
section
variable {X : Cx} {k j : Nat} {x : Str} {ps : List Str} {sp : Sp} {e : Expr} {es : List Expr} {t : TA} {p pos : Pos}
theorem pe_fn (F : FnAt X.prog X.w X.K X.mg X.base k x ps sp) (hr : Room k X.A) (hg : Gl X x) (ha : PA X (e :: es) t) (hd : (x == ("__debug__" : Str)) = false := by decide)
    (he : starEach (e :: es) X.env = (false, eval e X.env) :: starEach es X.env := by rfl) (hpl : (backTo pos (starEach es X.env)).any (·.1) = false := by rfl) :
    PE X (.Call (.Name x p) (e :: es) [] pos) (tCall sp [] E0 t) := by
  obtain ⟨f, fd, G, hm, hk, hb⟩ := F
  exact pe_call G hr hg hm hk hb .nil pass0 ha (hdb := hd) (he := he) (hpl := hpl)
end

/-! ### what the built-in names are -/
theorem bt_all : bootBuiltins "all" = some (.builtin "all") := by kernel_rfl
theorem bt_len : bootBuiltins "len" = some (.builtin "len") := by kernel_rfl
theorem bt_min : bootBuiltins "min" = some (.builtin "min") := by kernel_rfl
theorem bt_sum : bootBuiltins "sum" = some (.builtin "sum") := by kernel_rfl
theorem bt_sorted : bootBuiltins "sorted" = some (.builtin "sorted") := by kernel_rfl
theorem bt_isinstance : bootBuiltins "isinstance" = some (.builtin "isinstance") := by kernel_rfl
theorem bt_int : bootBuiltins "int" = some (.type "int") := by kernel_rfl
theorem bt_bool : bootBuiltins "bool" = some (.type "bool") := by kernel_rfl
theorem bt_list : bootBuiltins "list" = some (.type "list") := by kernel_rfl
/-! ### a product whose size fits -/
section
variable {X : Cx}
theorem op_mulB : OpR X (binaryOp .Mult) (rI IntMulOk fun i j => .int (i * j)) := opI fun _ _ _ _ _ _ _ hc q => mul_int q hc
end

/-! ### heaps: what stays -/
/-- all stays but what stands at r -/
def Kp (r : Addr) (H H' : Hp) : Prop := ∀ b o, H b = some o → b ≠ r → H' b = some o
theorem Kp.of_same {r : Addr} {H H' : Hp} (h : Same H H') : Kp r H H' := fun b o e _ => h b o e
theorem Kp.trans {r : Addr} {H H1 H2 : Hp} (a : Kp r H H1) (b : Kp r H1 H2) : Kp r H H2 := fun c o h n => b c o (a c o h n) n
theorem Kp.set {r : Addr} {H : Hp} {o : HO} : Kp r H (upd H r o) := fun b u e n => by rw [upd_ne n]; exact e
theorem same_new {H : Hp} {p : Addr} {o : HO} (h : H p = none) : Same H (upd H p o) := fun b u e => by rw [upd_ne (ne_of_none e h)]; exact e
theorem Same.tups {H H' : Hp} (e : Same H H') : ∀ a xs, H a = some (HO.tup xs) → H' a = some (HO.tup xs) := fun a xs h => e _ _ h
theorem Same.sqL {K : PySem.W.Frag} {H H' : Hp} (e : Same H H') : ∀ a xs, SqL K H a xs → SqL K H' a xs := fun a xs h => e.seq h
/-- a list at r: tuples are elsewhere -/
theorem Kp.tups {H H' : Hp} {r : Addr} {ys : List V} (e : Kp r H H') (hr : H r = some (.lst ys)) : ∀ a xs, H a = some (HO.tup xs) → H' a = some (HO.tup xs) := fun a xs h => e _ _ h (ne_of h hr (by intro z; cases z))
end L2

/-! ### the rules over K itself (a block's context has the same K) -/
namespace L2
open PySem PySem.Spec PyProof.Rows
section
variable {X : Cx} {K : PySem.W.Frag}
theorem ix_listK (h : X.K = K) : IxR X (rIxL K) := by subst h; exact ix_list
theorem ix_tupK (h : X.K = K) : IxR X (rIxT K) := by subst h; exact ix_tup
theorem sl_listK (h : X.K = K) : SlR X (rSlL K) := by subst h; exact sl_list
theorem op_in_seqK (h : X.K = K) : OpR X (compareOp .In) (rIn K false) := by subst h; exact op_in_seq
def rLen (K : PySem.W.Frag) : List V → Hp → VK → Prop := fun xs H Q => ∃ (p : Addr) (ys : List V), xs = [.ref p] ∧ (SqL K H p ys ∨ SqT K H p ys) ∧ Q (.int ys.length) H
theorem call_len_seqK (h : X.K = K) : CallR X (.builtin "len") (rLen K) := by subst h; exact call_len_seq
def rListOf (K : PySem.W.Frag) : List V → Hp → VK → Prop := fun xs H Q => ∃ (p : Addr) (ys : List V), xs = [.ref p] ∧ (SqL K H p ys ∨ SqT K H p ys) ∧ ∀ l, H l = none → Q (.ref l) (upd H l (.lst ys))
theorem call_list_ofK (h : X.K = K) : CallR X (.type "list") (rListOf K) := by subst h; exact call_list_of
def rAllB (K : PySem.W.Frag) : List V → Hp → VK → Prop := fun xs H Q => ∃ (p : Addr) (bs : List Bool), xs = [.ref p] ∧ SqL K H p (bs.map V.bl) ∧ Q (.bl (bs.all id)) H
theorem call_all_boolsK (h : X.K = K) (hc : X.calm = true) : CallR X (.builtin "all") (rAllB K) := by subst h; exact call_all_bools hc
theorem op_eqDK (h : X.K = K) (hu : X.A.units + 64 < cLine) : OpR X (compareOp .Eq) (rEqD false) := by subst h; exact op_eqD hu
theorem op_neDK (h : X.K = K) (hu : X.A.units + 64 < cLine) : OpR X (compareOp .NotEq) (rEqD true) := by subst h; exact op_neD hu
theorem pi_listK {tg l : Expr} {tl : TE} (h : X.K = K) (hl : PE X l tl) : PI X tg l (iList K tl) := by subst h; exact pi_list hl
def rIsi (K : PySem.W.Frag) (c : Value) (cv : V) : List V → Hp → VK → Prop := fun xs H Q => ∃ x t b, xs = [x, cv] ∧ TyOf K H x t ∧ PySem.W.kitOne K t c = some b ∧ Q (.bl b) H
theorem call_isiK {c : Value} {cv : V} (h : X.K = K) (rc : RelV cv c) : CallR X (.builtin "isinstance") (rIsi K c cv) := by subst h; exact call_isi rc
theorem pe_appendK {o e : Expr} {to : TE} {t : TA} {apos cpos : Pos} (h : X.K = K) (ho : PE X o to) (ha : PA X [e] t)
    (hbase : attributeBase o "append" X.env (eval o X.env) = eval o X.env := by rfl)
    (hfew : ((backTo cpos (starEach [e] X.env)).all (fun x => !x.1) && (backToKw cpos (keywordEach [] X.env)).all (fun x => x.1.isSome)
      && decide (([e] : List Expr).length + ([] : List Keyword).length + (if ([] : List Keyword).isEmpty then 0 else 1) < 30)) = true := by rfl)
    (hline : (apos.endLine == cpos.line) = true := by rfl) (hs : starEach [e] X.env = (false, eval e X.env) :: starEach [] X.env := by rfl) (hplain : (backTo cpos (starEach [] X.env)).any (·.1) = false := by rfl) :
    PE X (.Call (.Attribute o "append" apos) [e] [] cpos) (tBM K "list" rAppend to t) := by
  subst h
  exact pe_bm PySem.F.plainAttrs_list PySem.F.slot_list_append PySem.F.type_list_append mt_append ho ha hbase hfew hline hs hplain
end
end L2
namespace L2
open PySem
/-! ### comprehensions by their invariant -/
section
variable {K : PySem.W.Frag} {a D : Addr} {xs : List V} {g : TG} {tc : TT} {te : TE} {Q : VK} {σ0 : St} {H1 : Hp}
/-- over a list that the block leaves as it is -/
theorem comp_list (Pv : Nat → St → Hp → Prop) (h0 : Pv 0 σ0 (upd H1 D (.lst []))) (hl : ∀ i σ H, i ≤ xs.length → Pv i σ H → SqL K H a xs)
    (hs : ∀ i x σ H, xs[i]? = some x → Pv i σ H → g x σ H fun σ2 H2 => tc σ2 H2 fun b H3 =>
      if b = true then te σ2 H3 fun y H4 => ∃ acc, H4 D = some (.lst acc) ∧ acc.length < sizeLine ∧ Pv (i + 1) σ2 (upd H4 D (.lst (acc ++ [y]))) else Pv (i + 1) σ2 H3)
    (hd : ∀ σ H, Pv xs.length σ H → Q (.ref D) H) : CompW (Itl K a) g tc te Q D σ0 H1 := by
  refine ⟨fun i m σ H => m = xs.length - i ∧ i ≤ xs.length ∧ Pv i σ H, ⟨xs.length, by simp, Nat.zero_le _, h0⟩, ?_⟩
  rintro i m σ H ⟨rfl, hi, p⟩
  have q := hl i σ H hi p
  by_cases hlt : i < xs.length
  · refine .inr ⟨⟨xs, xs[i], q, by simp [hlt]⟩, Pv (i + 1), fun σ' H' p' => ⟨xs.length - (i + 1), by omega, rfl, hlt, p'⟩, fun x H' y => ?_⟩
    obtain ⟨e, y⟩ := y
    subst e
    exact hs i x σ _ (y xs q) p
  · have e : i = xs.length := by omega
    subst e
    exact .inl ⟨⟨xs, q, Nat.le_refl _⟩, hd σ H p⟩
theorem comp_range {lo : Int} {n : Nat} (Pv : Nat → St → Hp → Prop) (h0 : Pv 0 σ0 (upd H1 D (.lst [])))
    (hs : ∀ i σ H, i < n → Pv i σ H → g (.int (lo + i)) σ H fun σ2 H2 => tc σ2 H2 fun b H3 =>
      if b = true then te σ2 H3 fun y H4 => ∃ acc, H4 D = some (.lst acc) ∧ acc.length < sizeLine ∧ Pv (i + 1) σ2 (upd H4 D (.lst (acc ++ [y]))) else Pv (i + 1) σ2 H3)
    (hd : ∀ σ H, Pv n σ H → Q (.ref D) H) : CompW (Itr lo n) g tc te Q D σ0 H1 := by
  refine ⟨fun i m σ H => m = n - i ∧ i ≤ n ∧ Pv i σ H, ⟨n, by simp, Nat.zero_le _, h0⟩, ?_⟩
  rintro i m σ H ⟨rfl, hi, p⟩
  by_cases hlt : i < n
  · refine .inr ⟨hlt, Pv (i + 1), fun σ' H' p' => ⟨n - (i + 1), by omega, rfl, hlt, p'⟩, fun x H' y => ?_⟩
    obtain ⟨e, y⟩ := y
    subst e y
    exact hs i σ _ hlt p
  · have e : i = n := by omega
    subst e
    exact .inl ⟨Nat.le_refl _, hd σ H p⟩
end
end L2
set_option Elab.async false
set_option linter.all false
set_option maxRecDepth 100000
set_option maxHeartbeats 4000000
namespace L2
open PySem PySem.Spec PyProof.Rows
/-! ### lists of data: shape and equality -/
section
variable {α : Type} (f : α → PyData)
theorem canAll_map : ∀ (l : List α), (∀ x ∈ l, (f x).canLay0 = true) → PyData.canLayAll0 (l.map f) = true
  | [], _ => rfl
  | a :: l, h => by
    show (PyData.canLay0 (f a) && PyData.canLayAll0 (l.map f)) = true
    rw [h a List.mem_cons_self, canAll_map l fun x hx => h x (List.mem_cons_of_mem _ hx)]; rfl
theorem depthAll_map (k : Nat) : ∀ (l : List α), (∀ x ∈ l, (f x).depth ≤ k) → PyData.depthAll (l.map f) ≤ k
  | [], _ => Nat.zero_le _
  | a :: l, h => by
    show max (PyData.depth (f a)) (PyData.depthAll (l.map f)) ≤ k
    exact Nat.max_le.mpr ⟨h a List.mem_cons_self, depthAll_map k l fun x hx => h x (List.mem_cons_of_mem _ hx)⟩
theorem shaped_list {l : List α} (k : Nat) (hk : k < 64) (h1 : ∀ x ∈ l, (f x).canLay0 = true) (h2 : ∀ x ∈ l, (f x).depth ≤ k) : SeqAt.shaped (.list (l.map f)) = true := by
  unfold SeqAt.shaped
  have e1 : PyData.canLay0 (.list (l.map f)) = true := canAll_map f l h1
  have e2 : PyData.depth (.list (l.map f)) ≤ 64 := by
    show PyData.depthAll (l.map f) + 1 ≤ 64
    have := depthAll_map f k l h2
    omega
  rw [e1, decide_eq_true e2]; rfl
theorem eqvAll_map [DecidableEq α] (h : ∀ x y, PyData.eqv (f x) (f y) = decide (x = y)) : ∀ (l m : List α), PyData.eqvAll (l.map f) (m.map f) = decide (l = m)
  | [], [] => rfl
  | [], _ :: _ => by simp only [List.map_nil, List.map_cons, PyData.eqvAll]; exact (decide_eq_false (by intro z; cases z)).symm
  | _ :: _, [] => by simp only [List.map_nil, List.map_cons, PyData.eqvAll]; exact (decide_eq_false (by intro z; cases z)).symm
  | a :: l, b :: m => by
    simp only [List.map_cons, PyData.eqvAll]
    rw [h a b, eqvAll_map h l m]
    by_cases e1 : a = b
    · subst e1
      by_cases e2 : l = m
      · subst e2; simp
      · simp [e2]
    · simp [e1]
theorem eqv_list [DecidableEq α] (h : ∀ x y, PyData.eqv (f x) (f y) = decide (x = y)) (l m : List α) : PyData.eqv (.list (l.map f)) (.list (m.map f)) = decide (l = m) := by
  simp only [PyData.eqv]; exact eqvAll_map f h l m
end
theorem dat_list {H : Hp} {a : Addr} {vs : List V} {ds : List PyData} (h : H a = some (.lst vs)) (d : Dats H vs ds) : Dat H (.ref a) (.list ds) := by
  simp only [Dat]
  exact ⟨a, vs, rfl, h, d⟩
theorem isi_int_int (K : PySem.W.Frag) : PySem.W.kitOne K (.type "int") (.type "int") = some true := rfl
theorem isi_int_bool (K : PySem.W.Frag) : PySem.W.kitOne K (.type "int") (.type "bool") = some false := by kernel_rfl
theorem isi_list_list (K : PySem.W.Frag) : PySem.W.kitOne K (.type "list") (.type "list") = some true := rfl
end L2
namespace L2
open PySem
theorem cut_take (xs : List V) (k : Nat) : cutV xs none (some (k : Int)) = xs.take k := by
  unfold cutV
  rw [HT.sIx_none, HT.sIx_nat, List.drop_zero, Nat.sub_zero]
  by_cases h : k ≤ xs.length
  · rw [Nat.min_eq_left h]
  · rw [Nat.min_eq_right (by omega), List.take_of_length_le (Nat.le_refl _), List.take_of_length_le (by omega)]
theorem cut_drop (xs : List V) (k : Nat) : cutV xs (some (k : Int)) none = xs.drop k := by
  unfold cutV
  rw [HT.sIx_none, HT.sIx_nat]
  by_cases h : k ≤ xs.length
  · rw [Nat.min_eq_left h, List.take_of_length_le (by rw [List.length_drop]; exact Nat.le_refl _)]
  · rw [Nat.min_eq_right (by omega), Nat.sub_self, List.take_zero, List.drop_of_length_le (by omega)]
end L2
set_option Elab.async false
set_option linter.all false
set_option maxRecDepth 100000
set_option maxHeartbeats 4000000
namespace PySem.W
open PySem PySem.Spec PySem.Calls PyProof.Rows
section
variable {prog : Program} {w : World} {A : Around} {E : Value → Shared → Prop} {s : Shared} {K : Frag} {x D : Addr} {ox : Obj} {odo : Option Obj} {name : Str}
end
/-- what the text's class of exceptions must have -/
structure XCls (K : Frag) (D : Addr) : Prop where
  hga : findIn K (.ref D) "__getattribute__" = some (some (.builtin "BaseException.__getattribute__"))
  hk : findIn K (.ref D) "__getattr__" = some none
  hB : mroIn K D (.type "BaseException") = some true
  hc : (clsIn K D).isSome = true
  ha : findIn K (.ref D) "__class__" = some (some (.builtin "object.__class__"))
  hn : specialIn K (.builtin "object.__class__") "__get__" = some (some (.builtin "getset_descriptor.__get__"))
  htk : takesIn K (.builtin "object.__class__") = some true
  hm : mroIn K D (.type "object") = some true
end PySem.W
set_option Elab.async false
set_option linter.all false
set_option maxRecDepth 100000
set_option maxHeartbeats 4000000
namespace L2
open PySem PySem.Spec PyProof.Rows

/-! ### an exception and its record -/
/-- the exception at e: of the class cls, its dict at dx; fl: none, no record yet; some f: its record's flight is f, the record lies where lo says -/
def XObj (h : Heap) (e : Addr) (cls : Value) (dx : Option Addr) (lo : Addr → Prop) : Option Value → Prop
  | none => ∃ oe vs, h.get? e = some oe ∧ oe.cls = cls ∧ oe.dict = dx ∧ oe.data = .fields vs ∧ vs[1]? = some .none
  | some f => ∃ oe vs T oT ts, h.get? e = some oe ∧ oe.cls = cls ∧ oe.dict = dx ∧ oe.data = .fields vs ∧ vs[1]? = some (.ref T) ∧ lo T ∧ T ≠ e ∧ h.get? T = some oT ∧ oT.data = .fields ts ∧ ts[3]? = some f
section
variable {M : Model} {A : Around} {E : Value → Shared → Prop} {s : Shared} {base : Heap} {env : Env} {outer : List Env} {L e : Addr}
/-- what a note leaves: all but the frames' slots, the exception and old records -/
structure Noted (fr : List Addr) (e : Addr) (lo : Addr → Prop) (h h' : Heap) : Prop where
  keep : ∀ b o, h.get? b = some o → b ∉ fr → b ≠ e → ¬ lo b → h'.get? b = some o
  slot : ∀ b o, h.get? b = some o → b ∈ fr → b ≠ e → ¬ lo b → ∃ sl, h'.get? b = some { o with slots := sl }
  there : ∀ b o, h.get? b = some o → ∃ o', h'.get? b = some o'
theorem Noted.trans {fr : List Addr} {lo : Addr → Prop} {h h1 h2 : Heap} (a : Noted fr e lo h h1) (b : Noted fr e lo h1 h2) : Noted fr e lo h h2 where
  keep := fun c o q n1 n2 n3 => b.keep c o (a.keep c o q n1 n2 n3) n1 n2 n3
  slot := fun c o q n1 n2 n3 => by
    obtain ⟨sl, q1⟩ := a.slot c o q n1 n2 n3
    obtain ⟨sl2, q2⟩ := b.slot c _ q1 n1 n2 n3
    exact ⟨sl2, q2⟩
  there := fun c o q => by
    obtain ⟨o1, q1⟩ := a.there c o q
    exact b.there c o1 q1
theorem upd_fields {h : Heap} {a : Addr} {o : Obj} {vs : Array Value} (q : h.get? a = some o) (d : o.data = .fields vs) (i : Nat) (v : Value) :
    (h.update a (Obj.mapFields (·.setIfInBounds i v))).get? a = some (Obj.mapFields (·.setIfInBounds i v) o) ∧ (Obj.mapFields (·.setIfInBounds i v) o).data = .fields (vs.setIfInBounds i v) ∧
      (Obj.mapFields (·.setIfInBounds i v) o).cls = o.cls ∧ (Obj.mapFields (·.setIfInBounds i v) o).dict = o.dict := by
  have d2 := Obj.data_mapFields d (·.setIfInBounds i v)
  refine ⟨Heap.get?_update_self _ q (Obj.isFreed_of_fields d2), d2, Obj.cls_mapFields _ _, ?_⟩
  obtain ⟨c, dd, dt, sl⟩ := o
  simp only at d
  subst d
  rfl
/-- a record is laid and named by the exception -/
theorem xentry {oe : Obj} {vs : Array Value} {head : Value} {hadNext : Bool} {cls : Value} {dx : Option Addr} {lo : Addr → Prop} {Q : Unit → Shared → Prop} (hfr : A.frames = some (env :: outer)) (hl : s.heap.FunFrames base (env :: outer)) (hf : env.frame = some L)
    (he : s.heap.get? e = some oe) (hd : oe.data = .fields vs) (hsz : 1 < vs.size) (hc : oe.cls = cls) (hdx : oe.dict = dx) (hlo : ∀ T, s.heap.get? T = none → lo T)
    (h : ∀ h', Noted (frs (env :: outer)) e lo s.heap h' → XObj h' e cls dx lo (some (rawInt L)) → Q () { s with heap := h' }) :
    wpAny M A (do let a ← frameOf env; let pl ← entryPlaceOf L hadNext; let b ← EntryCells.newEntry head a .none (rawInt L) .none pl; setField (.ref e) 1 b) Q E s := by
  have nfr : e ∉ frs (env :: outer) := fun hm => by
    obtain ⟨_, o, q, nf⟩ := hl.mem hm
    rw [he] at q
    cases q
    exact nf vs hd
  refine wpAny_bind (wpAny_frameOf_fun hfr hl hf fun h1 hs1 => ?_)
  refine wpAny_bind (wpAny_entryPlaceOf fun pl hpl => ?_)
  unfold EntryCells.newEntry newFields
  refine wpAny_bind (wpAny_newObj_type ?_ (hpl.sizeOk5 _ _ _ _ _))
  generalize hob : ({ cls := .type "traceback", dict := none, data := .fields ([head, .ref L, .none, rawInt L, .none] ++ (if pl.isEmpty then List.replicate 6 Value.none else pl)).toArray } : Obj) = ob
  have q1 : h1.get? e = some oe := (hs1.2.1 e nfr).trans he
  have q2 := Heap.get?_push_of_some (h := h1) ob q1
  have nTe : h1.objs.size ≠ e := Nat.ne_of_gt (Heap.lt_size q1)
  have sizes : h1.objs.size = s.heap.objs.size := hs1.1
  have newT : s.heap.get? h1.objs.size = none := Heap.get?_none_of_le (by rw [sizes]; exact Nat.le_refl _)
  refine wpAny_setField q2 hd hsz (h _ ⟨fun b o q n1 n2 n3 => ?_, fun b o q n1 n2 n3 => ?_, fun b o q => ?_⟩ ?_)
  · rw [Heap.get?_update_other _ _ (Ne.symm n2)]
    exact Heap.get?_push_of_some _ ((hs1.2.1 b n1).trans q)
  · obtain ⟨sl, q3⟩ := hs1.2.2 b o q
    refine ⟨sl, ?_⟩
    rw [Heap.get?_update_other _ _ (Ne.symm n2)]
    exact Heap.get?_push_of_some _ q3
  · obtain ⟨sl, q3⟩ := hs1.2.2 b o q
    by_cases hb : b = e
    · subst hb
      exact ⟨_, (upd_fields q2 hd 1 _).1⟩
    · refine ⟨{ o with slots := sl }, ?_⟩
      rw [Heap.get?_update_other _ _ (Ne.symm hb)]
      exact Heap.get?_push_of_some _ q3
  · obtain ⟨u1, u2, u3, u4⟩ := upd_fields q2 hd 1 (Value.ref h1.objs.size)
    refine ⟨_, _, h1.objs.size, ob, _, u1, u3.trans hc, u4.trans hdx, u2, by simp [hsz], hlo _ newT, nTe, ?_, by rw [← hob], ?_⟩
    · rw [Heap.get?_update_other _ _ (Ne.symm nTe)]
      exact Heap.get?_push_size _ (by rw [← hob]; rfl)
    · first | (simp; done) | (rcases hpl with rfl | ⟨_, _, _, _, _, _, _, rfl⟩ <;> simp)
/-- an exception without record, or with one that is not in flight, is noted at a frame -/
theorem xnote {cls : Value} {dx : Option Addr} {lo : Addr → Prop} {Q : Unit → Shared → Prop} {fl : Option Value} (hfl : fl = none ∨ fl = some .none) (hfr : A.frames = some (env :: outer)) (hl : s.heap.FunFrames base (env :: outer)) (hf : env.frame = some L)
    (x : XObj s.heap e cls dx lo fl) (hlo : ∀ T, s.heap.get? T = none → lo T)
    (h : ∀ h', Noted (frs (env :: outer)) e lo s.heap h' → XObj h' e cls dx lo (some (rawInt L)) → Q () { s with heap := h' }) : wpAny M A (noteFrame (.ref e) env) Q E s := by
  unfold noteFrame
  simp only [hf]
  rcases hfl with rfl | rfl
  · obtain ⟨oe, vs, he, hc, hdx, hd, h1⟩ := x
    refine wpAny_bind (wpAny_field he hd h1 ?_)
    rw [if_neg (by decide)]
    exact xentry hfr hl hf he hd (Array.getElem?_eq_some_iff.mp h1).1 hc hdx hlo h
  · obtain ⟨oe, vs, T, oT, ts, he, hc, hdx, hd, h1, hT, nT, hgT, hdT, h3⟩ := x
    refine wpAny_bind (wpAny_field he hd h1 ?_)
    rw [if_pos (show (Value.ref T != Value.none) = true from by simp)]
    refine wpAny_bind (wpAny_field hgT hdT h3 ?_)
    rw [if_neg (show ¬ ((Value.none == rawInt L) = true) from by simp [rawInt])]
    have hs3 : 3 < ts.size := (Array.getElem?_eq_some_iff.mp h3).1
    refine wpAny_bind (wpAny_setField hgT hdT hs3 ?_)
    have oth : ∀ b, b ≠ T → (s.heap.update T (Obj.mapFields (·.setIfInBounds 3 Value.none))).get? b = s.heap.get? b := fun b hb => Heap.get?_update_other _ _ (Ne.symm hb)
    obtain ⟨u1, u2, u3, u4⟩ := upd_fields hgT hdT 3 Value.none
    have n0 : Noted (frs (env :: outer)) e lo s.heap (s.heap.update T (Obj.mapFields (·.setIfInBounds 3 Value.none))) := by
      have nb : ∀ b, ¬ lo b → b ≠ T := fun b hb z => hb (by rw [z]; exact hT)
      refine ⟨fun b o q _ _ n3 => (oth b (nb b n3)).trans q, fun b o q _ _ n3 => ⟨o.slots, (oth b (nb b n3)).trans q⟩, fun b o q => ?_⟩
      by_cases hb : b = T
      · subst hb; exact ⟨_, u1⟩
      · exact ⟨o, (oth b hb).trans q⟩
    have ffs : (s.heap.update T (Obj.mapFields (·.setIfInBounds 3 Value.none))).FunFrames base (env :: outer) := hl.of_keeps fun b o q nf => by
      by_cases hb : b = T
      · subst hb; rw [hgT] at q; cases q; exact absurd hdT (nf ts)
      · exact ⟨o, (oth b hb).trans q, rfl⟩
    refine xentry (s := { s with heap := s.heap.update T (Obj.mapFields (·.setIfInBounds 3 Value.none)) }) hfr ffs hf ((oth e (Ne.symm nT)).trans he) hd (Array.getElem?_eq_some_iff.mp h1).1 hc hdx (fun T' z => ?_) fun h' n1 x1 => h h' (n0.trans n1) x1
    by_cases hb : T' = T
    · rw [hb]; exact hT
    · exact hlo T' ((oth T' hb).symm.trans z)
/-- its flight is ended -/
theorem xland {cls : Value} {dx : Option Addr} {lo : Addr → Prop} {Q : Unit → Shared → Prop} {fr : List Addr} {f : Value} (x : XObj s.heap e cls dx lo (some f)) 
    (h : ∀ h', Noted fr e lo s.heap h' → XObj h' e cls dx lo (some .none) → Q () { s with heap := h' }) : wpAny M A (setFlight (.ref e) none) Q E s := by
  obtain ⟨oe, vs, T, oT, ts, he, hc, hdx, hd, h1, hT, nT, hgT, hdT, h3⟩ := x
  have hs3 : 3 < ts.size := (Array.getElem?_eq_some_iff.mp h3).1
  unfold setFlight
  refine wpAny_bind (wpAny_field he hd h1 ?_)
  rw [if_pos (show (Value.ref T != Value.none) = true from by simp)]
  have oth : ∀ b, b ≠ T → (s.heap.update T (Obj.mapFields (·.setIfInBounds 3 Value.none))).get? b = s.heap.get? b := fun b hb => Heap.get?_update_other _ _ (Ne.symm hb)
  obtain ⟨u1, u2, u3, u4⟩ := upd_fields hgT hdT 3 Value.none
  have nb : ∀ b, ¬ lo b → b ≠ T := fun b hb z => hb (by rw [z]; exact hT)
  refine wpAny_setField hgT hdT hs3 (h _ ⟨fun b o q _ _ n3 => (oth b (nb b n3)).trans q, fun b o q _ _ n3 => ⟨o.slots, (oth b (nb b n3)).trans q⟩, fun b o q => ?_⟩ ?_)
  · by_cases hb : b = T
    · subst hb; exact ⟨_, u1⟩
    · exact ⟨o, (oth b hb).trans q⟩
  · exact ⟨oe, vs, T, _, _, (oth e (Ne.symm nT)).trans he, hc, hdx, hd, h1, hT, nT, u1, u2, by simp [hs3]⟩
end

section
variable {X : Cx} {pins : List (Addr × Obj)} {σ : St} {H : Hp} {s : Shared} {e : Addr}
theorem ObjOk.there {P : Program} {w : World} {H : Hp} {h : Heap} {a : Addr} {o : HO} (x : ObjOk P w H h a o) : ∃ ob, h.get? a = some ob := by
  induction o with
  | lst xs => obtain ⟨_, _, _, _, q⟩ := x; exact ⟨_, q⟩
  | tup xs => obtain ⟨_, _, _, ob, q, _⟩ := x; exact ⟨ob, q⟩
  | dK kvs => obtain ⟨_, _, _, _, ob, _, _, q, _⟩ := x; exact ⟨ob, q⟩
  | dT kvs => obtain ⟨_, _, _, _, ob, _, _, q, _⟩ := x; exact ⟨ob, q⟩
  | set S n => obtain ⟨ob, _, _, _, q, _⟩ := x; exact ⟨ob, q⟩
  | ins C dx fs => obtain ⟨_, _, _, q, _⟩ := x; exact ⟨_, q⟩
  | own y => exact x
  | xd fs => obtain ⟨_, ⟨ob, _, _, q, _⟩, _⟩ := x; exact ⟨ob, q⟩
  | rng lo hi => obtain ⟨_, _, _, q⟩ := x; exact ⟨_, q⟩
  | frz ob u ih => exact ⟨ob, x.1⟩
  | tbl ps => exact ⟨_, x⟩
  | met f y => exact ⟨_, x⟩
  | ext φ => exact x.2.1
/-- an address of the exception's own: not tracked, not of the frame's, unknown at the entry -/
def XFp (X : Cx) (pins : List (Addr × Obj)) (H : Hp) (b : Addr) : Prop :=
  H b = none ∧ b ≠ X.env.locals ∧ b ∉ X.fs ∧ X.s₀.heap.get? b = none ∧ (∀ x c, X.env.cells.lookup x = some c → c ≠ b) ∧ ∀ p ∈ X.pn ++ pins, p.1 ≠ b
theorem Inv.xfp (I : Inv X pins σ H s) (hx : X.ex = []) {b : Addr} (hb : s.heap.get? b = none) : XFp X pins H b := by
  refine ⟨?_, fun z => ?_, fun z => ?_, ?_, fun x c q z => ?_, fun p hp z => ?_⟩
  · cases q : H b with
    | none => rfl
    | some o =>
      obtain ⟨ob, r⟩ := (I.hok b o q).there
      rw [hb] at r; cases r
  · obtain ⟨m, ⟨o, _, _, r, _⟩, _⟩ := I.loc
    rw [← z, hb] at r; cases r
  · obtain ⟨_, o, r, _⟩ := I.funs.mem z
    rw [hb] at r; cases r
  · cases q : X.s₀.heap.get? b with
    | none => rfl
    | some o =>
      obtain ⟨o', r⟩ := I.base.there b o q (by rw [hx]; simp)
      rw [hb] at r; cases r
  · obtain ⟨v, o, r, _⟩ := I.cell x c q
    rw [z, hb] at r; cases r
  · obtain ⟨r, _⟩ := I.pin p hp
    rw [z, hb] at r; cases r
/-- a note leaves the frame's state -/
theorem Inv.noted {lo : Addr → Prop} {h' : Heap} (I : Inv X pins σ H s) (n : Noted (frs X.stack) e lo s.heap h') (hlo : ∀ b, (b = e ∨ lo b) → XFp X pins H b ∨ s.heap.get? b = none) : Inv X pins σ H { s with heap := h' } := by
  have off : ∀ b o, s.heap.get? b = some o → (¬ XFp X pins H b) → b ≠ e ∧ ¬ lo b := fun b o q nx =>
    ⟨fun z => (hlo b (.inl z)).elim nx fun r => (by rw [r] at q; cases q), fun z => (hlo b (.inr z)).elim nx fun r => (by rw [r] at q; cases q)⟩
  have any : ∀ b o, s.heap.get? b = some o → (¬ XFp X pins H b) → ∃ sl, h'.get? b = some { o with slots := sl } := fun b o q nx => by
    obtain ⟨n1, n2⟩ := off b o q nx
    by_cases hb : b ∈ frs X.stack
    · exact n.slot b o q hb n1 n2
    · exact ⟨o.slots, n.keep b o q hb n1 n2⟩
  have s0 : ∀ b o, X.s₀.heap.get? b = some o → ¬ XFp X pins H b := fun b o q x => by rw [x.2.2.2.1] at q; cases q
  have neL : ∀ b o, X.s₀.heap.get? b = some o → b ≠ X.env.locals := fun b o q => Nat.ne_of_lt (Nat.lt_of_lt_of_le (Heap.lt_size q) I.ok.above)
  have nst : ∀ b, b ≠ X.env.locals → b ∉ X.fs → b ∉ frs X.stack := fun b n1 n2 z => (List.mem_cons.mp (I.stkSub b z)).elim n1 n2
  have trk : ∀ b o, H b = some o → ¬ XFp X pins H b := fun b o q x => by rw [x.1] at q; cases q
  have trkf : ∀ b o, H b = some o → b ∉ frs X.stack := fun b o q z => by rw [I.stkFree b z] at q; cases q
  have cl : ∀ x c, X.env.cells.lookup x = some c → ∀ v, s.heap.IsCell c v → h'.IsCell c v := fun x c q v ⟨o, ho, hd⟩ => by
    obtain ⟨sl, r⟩ := any c o ho fun z => z.2.2.2.2.1 x c q rfl
    exact ⟨_, r, hd⟩
  refine ⟨I.ok, I.os, I.bare, ⟨fun b o q nn hb hx => ?_, fun b o q nn hb hx => ?_, I.base.free, fun b o q hx => ?_, I.base.tups, I.base.frzs, I.base.tbls⟩, ?_, fun x c q => ?_, I.free, I.freeC, fun p hp => ?_, fun a o q => ?_, I.len⟩
  · have q1 := I.base.keep b o q nn hb hx
    obtain ⟨n1, n2⟩ := off b o q1 (s0 b o q)
    exact n.keep b o q1 (nst b (neL b o q) hb) n1 n2
  · obtain ⟨sl, q1⟩ := I.base.slot b o q nn hb hx
    obtain ⟨sl2, q2⟩ := any b _ q1 (s0 b o q)
    exact ⟨sl2, q2⟩
  · obtain ⟨o1, q1⟩ := I.base.there b o q hx
    exact n.there b o1 q1
  · obtain ⟨m, ⟨ob, es, ep, ho, r⟩, hl⟩ := I.loc
    obtain ⟨sl, q1⟩ := any _ ob ho fun z => z.2.1 rfl
    refine ⟨m, ⟨_, es, ep, q1, r⟩, fun i x v e1 e2 e3 => ?_⟩
    obtain ⟨u, ru, l⟩ := hl i x v e1 e2 e3
    refine ⟨u, ru, ?_⟩
    rcases l with l | ⟨k, c, hc, z⟩
    · exact .inl l
    · exact .inr ⟨k, c, hc, cl x c hc _ z⟩
  · obtain ⟨v, z⟩ := I.cell x c q
    exact ⟨v, cl x c q v z⟩
  · obtain ⟨q, nn, n1, n2, d⟩ := I.pin p hp
    obtain ⟨m1, m2⟩ := off p.1 p.2 q fun z => z.2.2.2.2.2 p hp rfl
    exact ⟨n.keep p.1 p.2 q (nst p.1 n1 n2) m1 m2, nn, n1, n2, d⟩
  · refine (I.hok a o q).stay (fun b u hb r => ?_) (fun _ z => z) fun _ _ z => z
    rcases hb with rfl | hb
    · obtain ⟨m1, m2⟩ := off b u r (trk b o q)
      exact n.keep b u r (trkf b o q) m1 m2
    · obtain ⟨m1, m2⟩ := off b u r (trk b _ hb)
      exact n.keep b u r (trkf b _ hb) m1 m2

/-- how an exception lies behind a call -/
def CX1 (P : Program) (w : World) : CXT := fun outer H s E ev s' => ∃ (e : Addr) (cls : Value) (dx : Option Addr) (H' : Hp), ev = .ref e ∧ s'.os = s.os ∧ AllBare s'.gens ∧ Un (frs outer) [] H H' s.heap s'.heap ∧ HOk P w H' s'.heap ∧
  s.heap.get? e = none ∧ H' e = none ∧ XObj s'.heap e cls dx (fun T => s.heap.get? T = none ∧ H' T = none) (some .none) ∧ E cls dx H'
/-- exceptions that fulfil E may come up in this body, at a state of the frame -/
def Rz (X : Cx) (E : St → XK) : Prop := ∀ (pins : List (Addr × Obj)) (σ : St) (H : Hp) (s : Shared) (e : Addr) (cls : Value) (dx : Option Addr) (fl : Option Value), (fl = none ∨ fl = some .none) → Inv X pins σ H s → XFp X pins H e →
  XObj s.heap e cls dx (XFp X pins H) fl → E σ cls dx H → X.xe (.ref e) s
theorem XObj.imp {h : Heap} {e : Addr} {cls : Value} {dx : Option Addr} {lo lo' : Addr → Prop} {f : Option Value} (x : XObj h e cls dx lo f) (k : ∀ T, (∃ o, h.get? T = some o) → lo T → lo' T) : XObj h e cls dx lo' f := by
  cases f with
  | none => exact x
  | some f =>
    obtain ⟨oe, vs, T, oT, ts, he, hc, hdx, hd, h1, hT, nT, hgT, r⟩ := x
    exact ⟨oe, vs, T, oT, ts, he, hc, hdx, hd, h1, k T ⟨oT, hgT⟩ hT, nT, hgT, r⟩
/-- a callee's exception reaches the body's wish -/
theorem passes1 {E : St → XK} {σ : St} (hx : X.ex = []) (R : Rz X E) {pins : List (Addr × Obj)} {H : Hp} {s s' : Shared} {ev : Value} (I : Inv X pins σ H s) (c : CX1 X.prog X.w X.stack H s (E σ) ev s') : X.xe ev s' := by
  obtain ⟨e, cls, dx, H', rfl, ho, hg, u, hok, ne, he, x, q⟩ := c
  have I' : Inv X pins σ H' s' := I.call' (ch := []) ho u hok hg (fun b hb => by cases hb)
  have fp : ∀ T, s.heap.get? T = none → H' T = none → XFp X pins H' T := fun T h1 h2 => by
    obtain ⟨_, a2, a3, a4, a5, a6⟩ := I.xfp hx h1
    exact ⟨h2, a2, a3, a4, a5, a6⟩
  exact R pins σ H' s' e cls dx _ (.inr rfl) I' (fp e ne he) (x.imp fun T _ z => fp T z.1 z.2) q
/-- .. leaves a def's body -/
theorem rz_leave {P : Program} {w : World} {K : PySem.W.Frag} {mg : Str → Option Value} {base : Heap} {N : List Str} {qual : Str} {scope : Scope} {f : Addr} {cd : Value} {A : Around} {outer : List Env} {s : Shared} {H : Hp} {E : XK} :
    Rz (cxOf (CX1 P w) P w K mg base N qual scope f cd A outer s H E) (fun _ => E) := by
  intro pins σ H1 s1 e cls dx fl hfl I fe x q
  show wpAny (model P w) _ (leaving _ (.ref e)) _ _ s1
  unfold leaving
  have lo1 : ∀ b, (b = e ∨ (XFp (cxOf (CX1 P w) P w K mg base N qual scope f cd A outer s H E) pins H1 b ∨ s1.heap.get? b = none)) → XFp (cxOf (CX1 P w) P w K mg base N qual scope f cd A outer s H E) pins H1 b ∨ s1.heap.get? b = none := fun b z => z.elim (fun z => .inl (by rw [z]; exact fe)) fun z => z
  have stk : (cxOf (CX1 P w) P w K mg base N qual scope f cd A outer s H E).A.frames = some ((cxOf (CX1 P w) P w K mg base N qual scope f cd A outer s H E).env :: outer) := I.ok.frames
  refine wpAny_bind (xnote (base := base) (lo := fun T => XFp (cxOf (CX1 P w) P w K mg base N qual scope f cd A outer s H E) pins H1 T ∨ s1.heap.get? T = none) hfl stk I.stack rfl (x.imp fun T _ z => .inl z) (fun T z => .inr z) fun h1 n1 x1 => ?_)
  refine xland (fr := frs ((cxOf (CX1 P w) P w K mg base N qual scope f cd A outer s H E).env :: outer)) x1 fun h2 n2 x2 => ?_
  have I2 : Inv (cxOf (CX1 P w) P w K mg base N qual scope f cd A outer s H E) pins σ H1 { s1 with heap := h2 } := I.noted (n1.trans n2) lo1
  refine ⟨e, cls, dx, H1, rfl, I2.os, I2.bare, I2.base, I2.hok, fe.2.2.2.1, fe.1, x2.imp fun T _ z => ?_, q⟩
  rcases z with z | z
  · exact ⟨z.2.2.2.1, z.1⟩
  · have y := I.xfp rfl z
    exact ⟨y.2.2.2.1, y.1⟩
end
end L2
set_option Elab.async false
set_option linter.all false
set_option maxRecDepth 100000
set_option maxHeartbeats 4000000
namespace L2
open PySem PySem.Spec PyProof.Rows

/-! ### calls that may raise -/
def FnAtX (P : Program) (w : World) (K : PySem.W.Frag) (mg : Str → Option Value) (base : Heap) (k : Nat) (x : Str) (ps : List Str) (sp : Sp) : Prop :=
  ∃ f fd, FnOk P w K mg base (CX1 P w) k f fd ps sp ∧ mg x = some (.ref f) ∧ PySem.W.keepIn K (.ref f) = true ∧ Binds K fd ps []
def tCallX (sp : Sp) (E : St → XK) (t : TA) : TE := fun σ H Q => t σ H fun vs H1 => sp vs H1 Q (E σ)
section
variable {X : Cx} {k : Nat} {x : Str} {ps : List Str} {sp : Sp} {e : Expr} {es : List Expr} {t : TA} {p pos : Pos} {E : St → XK}
theorem pe_fnX (F : FnAtX X.prog X.w X.K X.mg X.base k x ps sp) (hx : X.ex = []) (R : Rz X E) (hr : Room k X.A) (hg : Gl X x) (ha : PA X (e :: es) t) (hd : (x == ("__debug__" : Str)) = false := by decide)
    (he : starEach (e :: es) X.env = (false, eval e X.env) :: starEach es X.env := by rfl) (hpl : (backTo pos (starEach es X.env)).any (·.1) = false := by rfl) :
    PE X (.Call (.Name x p) (e :: es) [] pos) (tCallX sp E t) := by
  obtain ⟨f, fd, G, hm, hk, hb⟩ := F
  intro pins s σ H Q I h
  refine wpAny_Call_Name_kw (ld_glob I hg hm ?_ hd)
  refine PySem.W.callWith_K (h₀ := X.base) I.ok.mod.kin hk (thn (ha pos pins s σ H _ I h) fun us s1 ⟨vs, H1, I1, r, q⟩ => ⟨I1.kIn, ?_⟩) he hpl
  have hlen : us.length = ps.length := by rw [← r.length]; exact G.len _ _ _ _ q
  have hbd := hb s1 us I1.kIn (by rw [List.append_nil]; exact hlen)
  rw [List.append_nil] at hbd
  refine wpAny_call (codeAny_mono (G.run X.A X.stack s1 H1 ⟨us, []⟩ us vs Q (E σ) hr I1.env0 hbd r q) fun res s' hq => ?_)
  match res, hq with
  | .error ev, hq => exact passes1 hx R I1 hq
  | .ok (.ret u), hq => exact I1.after hq
end
section
variable {P : Program} {w : World} {K : PySem.W.Frag} {mg : Str → Option Value} {base : Heap}
/-- a def whose exceptions leave it -/
theorem Fun.okX {x qual : Str} {st : Stmt} {f : Addr} {fd : FuncData} {N ps : List Str} {k : Nat} {sp : Sp} (F : Fun K x qual st f fd) (S : FnScope N ps (defScope st)) (len : ∀ vs H Q E, sp vs H Q E → vs.length = ps.length)
    (hbody : ∀ (cdv : Value) (A : Around) (outer : List Env) (s : Shared) (H : Hp) (vs : List V) (Q : VK) (E : XK), Room k (A.deeper (envOfC qual (defScope st) s.heap.objs.size f cdv)) → sp vs H Q E →
      Rz (cxOf (CX1 P w) P w K mg base N qual (defScope st) f cdv A outer s H E) (fun _ => E) →
      ∃ t, PSs (cxOf (CX1 P w) P w K mg base N qual (defScope st) f cdv A outer s H E) (defBody st) t ∧ t { nx := fun _ H' => Q .non H', rt := Q } (start N vs) H) : FnOk P w K mg base (CX1 P w) (k + 1) f fd ps sp := by
  obtain ⟨oc, od, kV, doc, pm, an, cdv, ct, osl, rfl, lk, hcd⟩ := F.ex
  exact fn_of lk hcd S len fun A outer s H vs Q E hr hsp => hbody cdv A outer s H vs Q E hr hsp rz_leave
end

/-! ### raise C(..), C an own class without an __init__ -/
theorem exc_obj {K : PySem.W.Frag} {h : Heap} {C : Addr} {bmB : List Value} {newId : String} (X : K.In h) (q : PySem.W.excIn K C bmB newId = true) :
    ∃ bm N nm qn bs hdct sn sub ab col dd k0 k1 k2 k3 k5 mN, h.get? C = some (excClassObj nm qn C N bs bm hdct sn sub ab col dd k0 k1 k2 k3 k5 newId) ∧ h.Ns N mN ∧ mN "__init__" = none ∧ OwnTail h bmB bm := by
  unfold PySem.W.excIn at q
  split at q
  · rename_i d0 c0 s0 lk
    split at q
    · rename_i C1 tl a0 a1 a2 a3 nn a5 em es
      simp only [Bool.and_eq_true, beq_iff_eq, Bool.not_eq_true'] at q
      obtain ⟨⟨⟨⟨⟨e1, e2⟩, e3⟩, e4⟩, e5⟩, e6⟩ := q
      subst e1 e2
      obtain ⟨f1, f2, f3, f4, f5, f6, f7, f8, f9, f10, f11⟩ := c0
      dsimp only at em e3 e5 e6
      subst em e3
      have ez : s0 = #[a0, a1, a2, a3, some (.builtin nn), a5] := by
        obtain ⟨l⟩ := s0
        simp only at es
        rw [es]
      subst ez
      exact ⟨tl, f4, _, _, _, _, _, _, _, _, _, _, _, _, _, _, _, X _ _ lk, .of_isNs (PySem.W.isNs_of_in X e5), PySem.W.nsMap_none_of_in X e5 e6, PySem.W.tail_of_in X e4⟩
    · cases q
  · cases q
def tRaise (cls : Value) (E : St → XK) (ta : TA) : TS := fun _ σ H => ta σ H fun vs H1 => vs.length ≤ sizeLine ∧ E σ cls none H1
section
variable {X : Cx} {E : St → XK} {x : Str} {C : Addr} {B newId initId : String} {bmB : List Value} {e0 : Expr} {rest : List Expr} {ta : TA} {np cpos pos : Pos}
theorem ps_raise (FB : ExcBaseFacts B newId initId bmB) (q : PySem.W.excIn X.K C bmB newId = true) (hm : X.mg x = some (.ref C)) (hg : Gl X x) (hc : X.calm = true) (hx : X.ex = []) (R : Rz X E) (ha : PA X (e0 :: rest) ta)
    (he : starEach (e0 :: rest) X.env = (false, eval e0 X.env) :: starEach rest X.env := by rfl) (hplain : (backTo cpos (starEach rest X.env)).any (·.1) = false := by rfl) (hd : (x == ("__debug__" : Str)) = false := by decide) :
    PS X (.Raise (some (.Call (.Name x np) (e0 :: rest) [] cpos)) none pos) (tRaise (.ref C) E ta) := by
  intro pins s σ H D I h
  obtain ⟨bm, N, nm, qn, bs, hdct, sn, sub, ab, col, dd, k0, k1, k2, k3, k5, mN, hC, hN, hni, T⟩ := exc_obj I.ok.mod.kin q
  refine wpAny_Raise_call_subT (k5 := k5) (k3 := k3) (k2 := k2) (k1 := k1) (k0 := k0) (dd := dd) (col := col) (ab := ab) (sub := sub) (sn := sn) (hdct := hdct) (bs := bs) (q := qn) (nm := nm)
    (C := C) (N := N) (bm := bm) (mN := mN) FB (T.hasType FB.hasBase) (I.ok.hd hc) (by rw [he]; show (false || (backTo cpos (starEach rest X.env)).any (·.1)) = false; rw [hplain]; rfl) hni (ld_glob I hg hm ⟨rfl, ?_⟩ hd)
  have h2 := ha cpos pins s σ H _ I h
  rw [he] at h2 ⊢
  refine Calls.evalArgs_plain (thn h2 fun us s1 ⟨vs, H1, I1, r, hl, hE⟩ => ⟨rfl, by rw [← r.length]; exact hl, I1.bk _ _ hC, hN.keeps I1.bk, T.keeps I1.bk, fun h' e mk => ?_⟩)
  obtain ⟨t, ht, _, _⟩ := mk.there
  have I2 : Inv X pins σ H1 { s1 with heap := h' } := I1.kept (t' := s1.toks) mk.keeps
  exact R pins σ H1 _ e (.ref C) none none (.inl rfl) I2 (I1.xfp hx mk.new) ⟨_, _, ht, rfl, rfl, rfl, rfl⟩ hE
end

/-! ### try: .. except C as n: .. -/
section
variable {X : Cx} {pins : List (Addr × Obj)} {σ : St} {H : Hp} {s : Shared}
end

section
variable {M : Model} {A : Around} {Er : Value → Shared → Prop} {s : Shared} {K : PySem.W.Frag} {e C D : Addr}
end
end L2
set_option Elab.async false
set_option linter.all false
set_option maxRecDepth 100000
set_option maxHeartbeats 4000000
namespace L2
open PySem PySem.Spec PyProof.Rows
section
variable {X : Cx} {pins : List (Addr × Obj)} {σ : St} {H : Hp} {s : Shared}
end

/-- what of the text a class must have to be named by an except -/
structure XHd (K : PySem.W.Frag) (D : Addr) : Prop where
  cl : (PySem.W.clsIn K D).isSome = true
  ty : PySem.W.typeIn K (.ref D) = some (.type "type")
  bs : PySem.W.subIn K (.ref D) (.type "BaseException") = some true
section
variable {X : Cx} {body suite : List Stmt} {b0 : Stmt} {n cn : Str} {i : Nat} {Dc : Addr} {tb : (St → XK) → TS} {th : TS} {cp hpos pos : Pos}
end

/-! ### isinstance of a caught exception -/
section
variable {X : Cx} {K : PySem.W.Frag}
theorem vals_refs {cs : List Addr} : ∀ {us : List Value}, Vals (cs.map V.ref) us → us = cs.map Value.ref := by
  induction cs with
  | nil => intro us r; cases r; rfl
  | cons c cs ih =>
    intro us r
    cases r with
    | cons r rs => cases (show _ = Value.ref c from r); rw [ih rs]; rfl
end
end L2
set_option Elab.async false
set_option linter.all false
set_option maxRecDepth 100000
set_option maxHeartbeats 4000000
namespace L2
open PySem PySem.Spec PyProof.Rows
section
variable {X : Cx} {K : PySem.W.Frag}
end
/-- an exception's class against another one -/
structure XPair (K : PySem.W.Frag) (C D : Addr) (b : Bool) : Prop where
  ne : (Value.ref C == Value.ref D) = false
  sub : PySem.W.subIn K (.ref C) (.ref D) = some b
end L2
namespace L2
open PySem
/-- a class of the text's that is raised; another one beside it -/
structure Xr (K : PySem.W.Frag) (mg : Str → Option Value) (C : Addr) (nm : Str) : Prop where
  bd : mg nm = some (.ref C)
  hd : XHd K C
  xc : PySem.W.XCls K C
  ex : PySem.W.excIn K C [.type "ValueError", .type "Exception", .type "BaseException", .type "object"] "ValueError.__new__" = true
  ve : PySem.W.subIn K (.ref C) (.type "ValueError") = some true
structure Xo (K : PySem.W.Frag) (mg : Str → Option Value) (C D : Addr) (nm : Str) (b : Bool) : Prop where
  bd : mg nm = some (.ref D)
  hd : XHd K D
  pr : XPair K C D b
end L2
set_option Elab.async false
set_option linter.all false
set_option maxRecDepth 100000
set_option maxHeartbeats 4000000
namespace L2
open PySem PySem.Spec PyProof.Rows

/-! ### several objects of an iterator turn -/
section
variable {X : Cx} {pins : List (Addr × Obj)} {σ : St} {H : Hp} {s : Shared} {h' : Heap}
end

/-! ### enumerate -/
section
variable {X : Cx}
end

/-! ### zip of two lists -/
section
variable {X : Cx}
end
end L2
set_option Elab.async false
set_option linter.all false
set_option maxRecDepth 100000
set_option maxHeartbeats 4000000
namespace L2
open PySem PySem.Spec PyProof.Rows
section
variable {K : PySem.W.Frag} {a l1 l2 D : Addr} {xs ys : List V} {g : TG} {tc : TT} {te : TE} {Q : VK} {σ0 : St} {H1 : Hp}
end
section
variable {K : PySem.W.Frag} {a l1 l2 : Addr} {xs ys : List V} {g : TG} {tb : TS} {D : Ends} {σ : St} {H : Hp}
end
/-! ### list.insert, list.count, sum -/
section
variable {X : Cx}
theorem pe_bmK {K : PySem.W.Frag} {T name id : String} {r : V → List V → Hp → VK → Prop} {o e : Expr} {es : List Expr} {to : TE} {t : TA} {apos cpos : Pos} (h : X.K = K) (pa : PlainAttrs T) (slot : Slot T name id) (hty : typeOf (.builtin id) = pure (.type "method_descriptor")) (hm : MtR X id r) (ho : PE X o to) (ha : PA X (e :: es) t)
    (hbase : attributeBase o name X.env (eval o X.env) = eval o X.env := by rfl)
    (hfew : ((backTo cpos (starEach (e :: es) X.env)).all (fun x => !x.1) && (backToKw cpos (keywordEach [] X.env)).all (fun x => x.1.isSome)
      && decide ((e :: es).length + ([] : List Keyword).length + (if ([] : List Keyword).isEmpty then 0 else 1) < 30)) = true := by rfl)
    (hline : (apos.endLine == cpos.line) = true := by rfl) (hs : starEach (e :: es) X.env = (false, eval e X.env) :: starEach es X.env := by rfl) (hplain : (backTo cpos (starEach es X.env)).any (·.1) = false := by rfl) :
    PE X (.Call (.Attribute o name apos) (e :: es) [] cpos) (tBM K T r to t) := by
  subst h
  exact pe_bm pa slot hty hm ho ha hbase hfew hline hs hplain
theorem pg_tupK {K : PySem.W.Frag} {es : List Expr} {k : Nat} {t : TGs} {n : Nat} {pos : Pos} (hK : X.K = K) (hc : X.calm = true) (h : PGs X es t)
    (hn : (assignEach es X.env).length = n := by rfl) (hst : (assignEach es X.env).findIdx? (·.1) = none := by rfl) : PG X (.Tuple es k pos) (gTup K n t) := by subst hK; exact pg_tup hc h hn hst
end
end L2
set_option Elab.async false
set_option linter.all false
set_option maxRecDepth 100000
set_option maxHeartbeats 4000000
namespace L2
open PySem
/-! ### comprehensions whose block writes nothing that stood -/
section
variable {K : PySem.W.Frag} {a D : Addr} {xs : List V} {tc : TT} {te : TE} {Q : VK} {rest : St} {H1 : Hp}
theorem fm_succ {α : Type} (f : Nat → Option α) (n : Nat) : (List.range (n + 1)).filterMap f = (List.range n).filterMap f ++ (f n).toList := by
  rw [List.range_succ, List.filterMap_append]
  cases h : f n <;> simp [h]
theorem fm_len {α : Type} (f : Nat → Option α) (n : Nat) : ((List.range n).filterMap f).length ≤ n := by
  have := List.length_filterMap_le f (List.range n)
  simpa using this
theorem Same.newly {H H1 : Hp} {D : Addr} {o : HO} (h : Same H H1) (n : H D = none) : Same H (upd H1 D o) := fun b u e => by rw [upd_ne (ne_of_none e n)]; exact h b u e
/-- over a list: what is told of each item is known ahead -/
theorem comp_val (f : Nat → Option V) (hD : H1 D = none) (hq : SqL K H1 a xs) (hx : xs.length ≤ 100000)
    (hs : ∀ i x H (G : Hp → Prop) (F : VK), xs[i]? = some x → Same H1 H → (∀ H', Same H H' → f i = none → G H') → (∀ y H', Same H H' → f i = some y → F y H') → tc (some x :: rest) H fun b H3 => if b = true then te (some x :: rest) H3 F else G H3)
    (hd : ∀ H, Same H1 H → H D = some (.lst ((List.range xs.length).filterMap f)) → Q (.ref D) H) : CompW (Itl K a) (gName 0) tc te Q D (none :: rest) H1 := by
  refine comp_list (K := K) (xs := xs) (fun i σ H => (∃ v, σ = v :: rest) ∧ Same H1 H ∧ H D = some (.lst ((List.range i).filterMap f))) ⟨⟨none, rfl⟩, same_new hD, upd_same⟩ (fun i σ H _ ⟨_, sm, _⟩ => sm.sqL _ _ hq) ?_ (fun σ H ⟨_, sm, e⟩ => hd H sm e)
  rintro i x σ H hi ⟨⟨v, rfl⟩, sm, e⟩
  have hil : i < xs.length := (List.getElem?_eq_some_iff.mp hi).1
  refine hs i x H _ _ hi sm (fun H3 s3 ef => ⟨⟨_, rfl⟩, sm.trans s3, by rw [s3 _ _ e, fm_succ, ef]; simp⟩) (fun y H4 s4 ef => ?_)
  refine ⟨_, s4 _ _ e, ?_, ⟨_, rfl⟩, (sm.trans s4).newly hD, ?_⟩
  · have := fm_len f i
    rw [sizeLine_eq]; omega
  · rw [upd_same, fm_succ, ef]; rfl
theorem comp_valR {n : Nat} (f : Nat → Option V) (hD : H1 D = none) (hx : n ≤ 100000)
    (hs : ∀ i H (G : Hp → Prop) (F : VK), i < n → Same H1 H → (∀ H', Same H H' → f i = none → G H') → (∀ y H', Same H H' → f i = some y → F y H') → tc (some (.int (0 + i)) :: rest) H fun b H3 => if b = true then te (some (.int (0 + i)) :: rest) H3 F else G H3)
    (hd : ∀ H, Same H1 H → H D = some (.lst ((List.range n).filterMap f)) → Q (.ref D) H) : CompW (Itr 0 n) (gName 0) tc te Q D (none :: rest) H1 := by
  refine comp_range (lo := 0) (n := n) (fun i σ H => (∃ v, σ = v :: rest) ∧ Same H1 H ∧ H D = some (.lst ((List.range i).filterMap f))) ⟨⟨none, rfl⟩, same_new hD, upd_same⟩ ?_ (fun σ H ⟨_, sm, e⟩ => hd H sm e)
  rintro i σ H hi ⟨⟨v, rfl⟩, sm, e⟩
  refine hs i H _ _ hi sm (fun H3 s3 ef => ⟨⟨_, rfl⟩, sm.trans s3, by rw [s3 _ _ e, fm_succ, ef]; simp⟩) (fun y H4 s4 ef => ?_)
  refine ⟨_, s4 _ _ e, ?_, ⟨_, rfl⟩, (sm.trans s4).newly hD, ?_⟩
  · have := fm_len f i
    rw [sizeLine_eq]; omega
  · rw [upd_same, fm_succ, ef]; rfl
theorem fm_congr {α β : Type} {f g : α → Option β} : ∀ (l : List α) (_ : True) (h : ∀ x ∈ l, f x = g x), l.filterMap f = l.filterMap g
  | [], _, _ => rfl
  | x :: l, _, h => by
    rw [List.filterMap_cons, List.filterMap_cons, h x (by simp), fm_congr l trivial fun y hy => h y (by simp [hy])]
theorem snocInd {α : Type} {P : List α → Prop} (h0 : P []) (hs : ∀ xs x, P xs → P (xs ++ [x])) (xs : List α) : P xs := by
  rw [← List.reverse_reverse xs]
  induction xs.reverse with
  | nil => exact h0
  | cons x l ih => rw [List.reverse_cons]; exact hs _ _ ih
theorem fm_some {α β : Type} (xs : List α) (g : α → β) : (List.range xs.length).filterMap (fun i => (xs[i]?).map g) = xs.map g := by
  refine snocInd (P := fun xs => (List.range xs.length).filterMap (fun i => (xs[i]?).map g) = xs.map g) rfl (fun xs x ih => ?_) xs
  · show (List.range (xs ++ [x]).length).filterMap (fun i => ((xs ++ [x])[i]?).map g) = (xs ++ [x]).map g
    rw [List.length_append, List.length_singleton, fm_succ, List.map_append]
    congr 1
    · rw [← ih]
      refine fm_congr _ trivial fun i hi => ?_
      have : i < xs.length := by simpa using hi
      rw [List.getElem?_append_left this]
    · simp
end
end L2
namespace L2
open PySem
section
variable {X : Cx} {K : PySem.W.Frag}
end
end L2
namespace L2
open PySem
/-- the rest of a block hidden while its first statement is read: keeps the terms small -/
theorem seq_one {a b : TS} {D : Ends} {σ : St} {H : Hp} (h : ∀ R : St → Hp → Prop, (∀ σ' H', b D σ' H' → R σ' H') → a { D with nx := R } σ H) : tSeq a b D σ H := h _ (fun _ _ x => x)
theorem seq_cps {a b : TS} {D : Ends} {σ : St} {H : Hp} (P : St → Hp → Prop) (h1 : ∀ D' : Ends, (∀ σ' H', P σ' H' → D'.nx σ' H') → D'.rt = D.rt → a D' σ H) (h2 : ∀ σ' H', P σ' H' → b D σ' H') : tSeq a b D σ H := h1 _ h2 rfl
end L2
namespace L2
open PySem PySem.Spec PyProof.Rows
section
variable {X : Cx} {K : PySem.W.Frag} {a : Expr} {ta : TE} {pos : Pos}
end
end L2
set_option Elab.async false
set_option linter.all false
set_option maxRecDepth 100000
set_option maxHeartbeats 4000000
namespace L2
open PySem PySem.Spec PyProof.Rows
section
variable {X : Cx} {K : PySem.W.Frag}
end
section
variable {K : PySem.W.Frag} {a D : Addr} {xs : List V} {te : TE} {Q : VK} {rest : St} {H1 : Hp}
theorem dats_snoc {H : Hp} {vs : List V} {ds : List PyData} {v : V} {d : PyData} (h : Dats H vs ds) (hd : Dat H v d) : Dats H (vs ++ [v]) (ds ++ [d]) := Dats.append h (by simp only [Dats, and_true]; exact hd)
end
end L2
set_option Elab.async false
set_option linter.all false
namespace L2
open PySem
/-- a name of the module that is a number or a text -/
def Gv (mg : Str → Option Value) (x : Str) (v : V) : Prop := ∃ u, mg x = some u ∧ RelV v u
end L2
set_option Elab.async false
set_option linter.all false
set_option maxRecDepth 100000
set_option maxHeartbeats 4000000
namespace L2
open PySem PySem.Spec PyProof.Rows
section
variable {prog : Program} {w : World} {K : Type} [DecidableEq K] {knd : HeapKind prog w K}
end
section
variable {X : Cx} {o e f : Expr} {td ty tx : TE} {apos cpos : Pos}
end
end L2
namespace L2
open PySem PySem.Spec PyProof.Rows
section
variable {X : Cx} {K : PySem.W.Frag}
end
end L2
namespace L2
open PySem
end L2
set_option Elab.async false
set_option linter.all false
set_option maxRecDepth 100000
set_option maxHeartbeats 4000000
namespace L2
open PySem PySem.Spec PyProof.Rows
section
variable {X : Cx} {K : PySem.W.Frag}
end
/-! ### texts put together -/
def cat : List Str → Str
  | [] => Str.empty
  | x :: xs => x ++ cat xs
end L2
set_option Elab.async false
set_option linter.all false
set_option maxRecDepth 100000
set_option maxHeartbeats 4000000
namespace L2
open PySem PySem.Spec PyProof.Rows
section
variable {X : Cx} {body suite : List Stmt} {b0 : Stmt} {cn : Str} {Dc : Addr} {tb : (St → XK) → TS} {th : TS} {cp hpos pos : Pos}
end
end L2
namespace L2
open PySem PySem.Spec PyProof.Rows
section
variable {X : Cx}
def CDivB (i j : Int) : Prop := 0 < j ∧ j < 1329227995784915872903807060280344576
theorem op_fdivB : OpR X (binaryOp .FloorDiv) (rI CDivB fun i j => .int (i / j)) := opI fun i j _ _ _ _ _ hc q => by
  have h1 : (0 : Int) < j := hc.1
  have h2 : j < 1329227995784915872903807060280344576 := hc.2
  refine floordiv_int (by omega) (by rw [Int.fdiv_eq_ediv_of_nonneg i (by omega)]; exact q) (.inl ?_)
  unfold Builtin.divisionGoesByPylong
  have hn : j.natAbs < 2 ^ 120 := by omega
  have hl : j.natAbs.log2 < 120 := (Nat.log2_lt (by omega)).mpr hn
  have hz : (j == 0) = false := by
    rw [beq_eq_false_iff_ne]
    omega
  simp only [hz, Bool.false_eq_true, if_false]
  have : ¬ j.natAbs.log2 / 30 + 1 > 300 := by omega
  rw [decide_eq_false this, Bool.false_and]
end
end L2
set_option Elab.async false
set_option linter.all false
set_option maxRecDepth 100000
set_option maxHeartbeats 4000000
namespace L2
open PySem PySem.Spec PyProof.Rows
section
variable {X : Cx} {pins : List (Addr × Obj)} {σ : St} {H : Hp} {s : Shared} {d : Addr} {u u' : HO}
end
/-! ### over a dict's keys: the dict is held as it stands till the walk is over -/
section
variable {X : Cx} {tg : Expr}
end
section
variable {d D : Addr} {o : Obj} {kvs : List (Key × V)} {tc : TT} {te : TE} {Q : VK} {rest : St} {H1 : Hp}
end
/-! ### let go again -/
end L2
set_option Elab.async false
set_option linter.all false
set_option maxRecDepth 100000
set_option maxHeartbeats 4000000
namespace L2
open PySem PySem.Spec PyProof.Rows
/-! ### range downwards -/
section
variable {X : Cx} {tg : Expr}
/-! ### the least of a list -/
end
end L2
set_option Elab.async false
set_option linter.all false
set_option maxRecDepth 100000
set_option maxHeartbeats 4000000
namespace L2
open PySem PySem.Spec PyProof.Rows
/-! ### reversed of a list -/
section
variable {X : Cx} {tg : Expr}
/-! ### list(range(a, b)) -/
end
end L2
set_option Elab.async false
set_option linter.all false
set_option maxRecDepth 100000
set_option maxHeartbeats 4000000
namespace L2
open PySem PySem.Spec PyProof.Rows
/-! ### in, for lists of data -/
section
variable {X : Cx}
end
end L2
set_option Elab.async false
set_option linter.all false
set_option maxRecDepth 100000
set_option maxHeartbeats 4000000
namespace L2
open PySem PySem.Spec PyProof.Rows
/-! ### a def that may raise, where it doesn't -/
/-! ### data that stay -/
section
variable {H H' : Hp}
mutual
theorem Dat.same (k : Same H H') : ∀ (d : PyData) {v : V}, Dat H v d → Dat H' v d
  | .none, _, h => by simp only [Dat] at h ⊢; exact h
  | .bool _, _, h => by simp only [Dat] at h ⊢; exact h
  | .int _, _, h => by simp only [Dat] at h ⊢; exact h
  | .str _, _, h => by simp only [Dat] at h ⊢; exact h
  | .list ds, _, h => by simp only [Dat] at h ⊢; obtain ⟨a, vs, e, q, r⟩ := h; exact ⟨a, vs, e, k _ _ q, Dats.same k ds r⟩
  | .tuple ds, _, h => by simp only [Dat] at h ⊢; obtain ⟨a, vs, e, q, r⟩ := h; exact ⟨a, vs, e, k _ _ q, Dats.same k ds r⟩
  | .dict _, _, h => by simp only [Dat] at h
theorem Dats.same (k : Same H H') : ∀ (ds : List PyData) {vs : List V}, Dats H vs ds → Dats H' vs ds
  | [], [], _ => by simp only [Dats]
  | d :: ds, v :: vs, h => by simp only [Dats] at h ⊢; exact ⟨Dat.same k d h.1, Dats.same k ds h.2⟩
  | _ :: _, [], h => by simp only [Dats] at h
  | [], _ :: _, h => by simp only [Dats] at h
end
end
/-! ### isinstance(x, (t1, t2)) of plain data -/
section
variable {X : Cx} {K : PySem.W.Frag}
end
section
variable {K : PySem.W.Frag} {a D : Addr} {xs : List V} {tc : TT} {te : TE} {Q : VK} {rest : St} {H1 : Hp}
end
/-! ### t + u, any tuples -/
section
variable {X : Cx}
end
end L2
set_option Elab.async false
set_option linter.all false
set_option maxRecDepth 100000
set_option maxHeartbeats 4000000
namespace L2
open PySem PySem.Spec PyProof.Rows
/-! ### xs[::-1] -/
section
variable {X : Cx} {K : PySem.W.Frag} {e st : Expr} {te tk : TE} {pos p2 : Pos}
end
end L2
set_option Elab.async false
set_option linter.all false
set_option maxRecDepth 100000
set_option maxHeartbeats 4000000
namespace L2
open PySem PySem.Spec PyProof.Rows
/-! ### data are one -/
section
variable {H : Hp}
mutual
theorem Dat.fn : ∀ (d e : PyData) {v : V}, Dat H v d → Dat H v e → d = e
  | .none, e, v, h, g => by cases e <;> simp only [Dat] at h g <;> first | rfl | (subst h; first | (obtain ⟨_, _, z, _⟩ := g; cases z; done) | (cases g; done))
  | .bool _, e, v, h, g => by cases e <;> simp only [Dat] at h g <;> first | (subst h; first | (injection g with g; rw [g]; done) | (obtain ⟨_, _, z, _⟩ := g; cases z; done) | (cases g; done))
  | .int _, e, v, h, g => by cases e <;> simp only [Dat] at h g <;> first | (subst h; first | (injection g with g; rw [g]; done) | (obtain ⟨_, _, z, _⟩ := g; cases z; done) | (cases g; done))
  | .str _, e, v, h, g => by cases e <;> simp only [Dat] at h g <;> first | (subst h; first | (injection g with g; rw [g]; done) | (obtain ⟨_, _, z, _⟩ := g; cases z; done) | (cases g; done))
  | .list ds, .list es, v, h, g => by
    simp only [Dat] at h g
    obtain ⟨a, vs, rfl, ha, da⟩ := h
    obtain ⟨b, ws, e, hb, db⟩ := g
    injection e with e
    subst e
    rw [ha] at hb
    injection hb with hb
    injection hb with hb
    subst hb
    rw [Dats.fn ds es da db]
  | .tuple ds, .tuple es, v, h, g => by
    simp only [Dat] at h g
    obtain ⟨a, vs, rfl, ha, da⟩ := h
    obtain ⟨b, ws, e, hb, db⟩ := g
    injection e with e
    subst e
    rw [ha] at hb
    injection hb with hb
    injection hb with hb
    subst hb
    rw [Dats.fn ds es da db]
  | .list ds, .tuple es, v, h, g => by
    simp only [Dat] at h g
    obtain ⟨a, vs, rfl, ha, da⟩ := h
    obtain ⟨b, ws, e, hb, db⟩ := g
    injection e with e
    subst e
    rw [ha] at hb
    injection hb with hb
    cases hb
  | .tuple ds, .list es, v, h, g => by
    simp only [Dat] at h g
    obtain ⟨a, vs, rfl, ha, da⟩ := h
    obtain ⟨b, ws, e, hb, db⟩ := g
    injection e with e
    subst e
    rw [ha] at hb
    injection hb with hb
    cases hb
  | .list ds, .none, v, h, g => by simp only [Dat] at h g; obtain ⟨a, vs, rfl, _⟩ := h; cases g
  | .list ds, .bool _, v, h, g => by simp only [Dat] at h g; obtain ⟨a, vs, rfl, _⟩ := h; cases g
  | .list ds, .int _, v, h, g => by simp only [Dat] at h g; obtain ⟨a, vs, rfl, _⟩ := h; cases g
  | .list ds, .str _, v, h, g => by simp only [Dat] at h g; obtain ⟨a, vs, rfl, _⟩ := h; cases g
  | .tuple ds, .none, v, h, g => by simp only [Dat] at h g; obtain ⟨a, vs, rfl, _⟩ := h; cases g
  | .tuple ds, .bool _, v, h, g => by simp only [Dat] at h g; obtain ⟨a, vs, rfl, _⟩ := h; cases g
  | .tuple ds, .int _, v, h, g => by simp only [Dat] at h g; obtain ⟨a, vs, rfl, _⟩ := h; cases g
  | .tuple ds, .str _, v, h, g => by simp only [Dat] at h g; obtain ⟨a, vs, rfl, _⟩ := h; cases g
  | .list ds, .dict _, v, h, g => by simp only [Dat] at g
  | .tuple ds, .dict _, v, h, g => by simp only [Dat] at g
  | .dict _, _, v, h, g => by simp only [Dat] at h
theorem Dats.fn : ∀ (ds es : List PyData) {vs : List V}, Dats H vs ds → Dats H vs es → ds = es
  | [], [], _, _, _ => rfl
  | d :: ds, e :: es, v :: vs, h, g => by
    simp only [Dats] at h g
    rw [Dat.fn d e h.1 g.1, Dats.fn ds es h.2 g.2]
  | [], _ :: _, [], _, g => by simp only [Dats] at g
  | [], _ :: _, _ :: _, h, _ => by simp only [Dats] at h
  | _ :: _, [], [], h, _ => by simp only [Dats] at h
  | _ :: _, [], _ :: _, _, g => by simp only [Dats] at g
  | _ :: _, _ :: _, [], h, _ => by simp only [Dats] at h
end
end
/-! ### xs.index(x), of tuples -/
section
variable {X : Cx}
end
end L2
set_option Elab.async false
set_option linter.all false
set_option maxRecDepth 100000
set_option maxHeartbeats 4000000
namespace L2
open PySem PySem.Spec PyProof.Rows
/-! ### f"..{n}" -/
section
variable {X : Cx} {K : PySem.W.Frag} {e e1 e2 l : Expr} {te t1 t2 tl : TE} {pos : Pos} {tg : Expr}
/-! ### walking a list or a tuple -/
end
section
variable {X : Cx}
end
end L2
set_option Elab.async false
set_option linter.all false
set_option maxRecDepth 100000
set_option maxHeartbeats 4000000
namespace L2
open PySem PySem.Spec PyProof.Rows PySem.Builtin PySem.Builtin.Str
/-! ### texts taken apart -/
section
variable {X : Cx} {K : PySem.W.Frag}
/-! ### the signs of a text, one by one -/
def Its (x : Str) : It := ⟨fun i _ => i < x.cps.size, fun i H v H' => H' = H ∧ ∃ c, x.cps[i]? = some c ∧ v = .str ⟨#[c]⟩, fun i _ => x.cps.size ≤ i⟩
theorem turn_str {P : Program} {w : World} {K : PySem.W.Frag} {tg : Expr} (x : Str) (t : Tok) (it : Addr) : Turn P w K tg (Its x) [it] it (fun i h => i ≤ x.cps.size ∧ (h.IsStrIter it "str_ascii_iterator" x t i ∨ h.IsStrIter it "str_iterator" x t i)) where
  mem := by simp
  obj := fun i h st b hb => by
    have e : b = it := by simpa using hb
    subst e
    rcases st.2 with ⟨o, e, c, d⟩ | ⟨o, e, c, d⟩
    · exact ⟨o, e, fun v z => by rw [d] at z; cases z⟩
    · exact ⟨o, e, fun v z => by rw [d] at z; cases z⟩
  keep := fun i h h' st k => ⟨st.1, st.2.imp (fun ⟨o, e, r⟩ => ⟨o, k it (by simp) o e, r⟩) (fun ⟨o, e, r⟩ => ⟨o, k it (by simp) o e, r⟩)⟩
  item := by
    intro X hP hw hK hc i pins s σ H E I hf st hg
    subst hP hw hK
    have hi : i < x.cps.size := hg
    have hx : x.cps[i]? = some x.cps[i] := by simp [hi]
    obtain ⟨f0, f1, f2, f3, f4, f5⟩ := hf it (by simp)
    rcases st.2 with st | st
    · refine wpAny_pyNext_ascii_item st hx fun h' st' sb => ?_
      have I1 : Inv X pins σ H { s with heap := h', toks := s.toks + 1 } := I.turned (t' := s.toks + 1) (fun b o hb e => (sb.2 b hb).trans e) f0 f1 f3 f4 f5
      obtain ⟨o, e, c, d⟩ := id st'
      exact ⟨_, rfl, go_of (s := { s with heap := h', toks := s.toks + 1 }) e c d (by decide) ⟨.str ⟨#[x.cps[i]]⟩, H, I1, ⟨_, rfl⟩, ⟨rfl, _, hx, rfl⟩, ⟨hi, .inl st'⟩, fun b hb => (hf b hb).1⟩⟩
    · refine wpAny_pyNext_wide_item st hx fun h' st' sb => ?_
      have I1 : Inv X pins σ H { s with heap := h', toks := s.toks + 1 } := I.turned (t' := s.toks + 1) (fun b o hb e => (sb.2 b hb).trans e) f0 f1 f3 f4 f5
      obtain ⟨o, e, c, d⟩ := id st'
      exact ⟨_, rfl, go_of (s := { s with heap := h', toks := s.toks + 1 }) e c d (by decide) ⟨.str ⟨#[x.cps[i]]⟩, H, I1, ⟨_, rfl⟩, ⟨rfl, _, hx, rfl⟩, ⟨hi, .inr st'⟩, fun b hb => (hf b hb).1⟩⟩
  done := by
    intro X hP hw hK hc i pins s σ H E I hf st hg
    subst hP hw hK
    have hx : x.cps[i]? = none := by simpa using (show x.cps.size ≤ i from hg)
    obtain ⟨f0, f1, f2, f3, f4, f5⟩ := hf it (by simp)
    rcases st.2 with st | st
    · exact wpAny_pyNext_ascii_end (I.ok.hd hc) st hx fun h' eb => ⟨rfl, I.turned (t' := s.toks) (fun b o hb e => eb b o hb e) f0 f1 f3 f4 f5⟩
    · exact wpAny_pyNext_wide_end (I.ok.hd hc) st hx fun h' eb => ⟨rfl, I.turned (t' := s.toks) (fun b o hb e => eb b o hb e) f0 f1 f3 f4 f5⟩
  self := fun _ _ _ _ _ st h => st.2.elim (fun st => wpAny_pyIter_striter_ascii st h) (fun st => wpAny_pyIter_striter_wide st h)
def iStr (tl : TE) : TI := fun σ H R => tl σ H fun x H1 => ∃ a, x = .str a ∧ R (Its a) H1
theorem pi_str {tg l : Expr} {tl : TE} (hl : PE X l tl) : PI X tg l (iStr tl) := by
  intro pins s σ H R I h
  refine thn (hl pins s σ H _ I h) fun v s1 ⟨x, H1, I1, r1, q1⟩ => ?_
  obtain ⟨a, rfl, q⟩ := q1
  obtain ⟨t, rfl⟩ := r1
  have fin : ∀ o, (s1.heap.push o).IsStrIter s1.heap.objs.size "str_ascii_iterator" a t 0 ∨ (s1.heap.push o).IsStrIter s1.heap.objs.size "str_iterator" a t 0 → PIE X pins σ tg R (.ref s1.heap.objs.size) { s1 with heap := s1.heap.push o } := by
    intro o st
    refine ⟨s1.heap.objs.size, [s1.heap.objs.size], _, _, H1, rfl, I1.kept (t' := s1.toks) fun b o e => Heap.get?_push_of_some _ e, turn_str a t _, ⟨Nat.zero_le _, st⟩, fun b hb => ?_, q⟩
    have e : b = s1.heap.objs.size := by simpa using hb
    subst e
    exact I1.fpOk (Nat.le_refl _) (I1.hok.fresh (Nat.le_refl _))
  cases ha : a.cps.all (· < 128)
  · exact wpAny_pyIter_wide ha (fin _ (.inr ⟨_, Heap.get?_push_size _ rfl, rfl, rfl⟩))
  · exact wpAny_pyIter_ascii ha (fin _ (.inl ⟨_, Heap.get?_push_size _ rfl, rfl, rfl⟩))
end
section
variable {K : PySem.W.Frag} {D : Addr} {tc : TT} {te : TE} {Q : VK} {rest : St} {H1 : Hp}
theorem comp_strP {x : Str} {g : TG} {σ0 : St} (Pv : Nat → St → Hp → Prop) (h0 : Pv 0 σ0 (upd H1 D (.lst [])))
    (hs : ∀ i c σ H, x.cps[i]? = some c → Pv i σ H → g (.str ⟨#[c]⟩) σ H fun σ2 H2 => tc σ2 H2 fun b H3 =>
      if b = true then te σ2 H3 fun y H4 => ∃ acc, H4 D = some (.lst acc) ∧ acc.length < sizeLine ∧ Pv (i + 1) σ2 (upd H4 D (.lst (acc ++ [y]))) else Pv (i + 1) σ2 H3)
    (hd : ∀ σ H, Pv x.cps.size σ H → Q (.ref D) H) : CompW (Its x) g tc te Q D σ0 H1 := by
  refine ⟨fun i m σ H => m = x.cps.size - i ∧ i ≤ x.cps.size ∧ Pv i σ H, ⟨x.cps.size, by simp, Nat.zero_le _, h0⟩, ?_⟩
  rintro i m σ H ⟨rfl, hi, p⟩
  by_cases hlt : i < x.cps.size
  · refine .inr ⟨hlt, Pv (i + 1), fun σ' H' p' => ⟨x.cps.size - (i + 1), by omega, rfl, hlt, p'⟩, fun y H' e => ?_⟩
    obtain ⟨e, c, hc, rfl⟩ := e
    subst e
    exact hs i c σ _ hc p
  · have e : i = x.cps.size := by omega
    subst e
    exact .inl ⟨Nat.le_refl _, hd σ H p⟩
theorem comp_valS {x : Str} (f : Nat → Option V) (hD : H1 D = none) (hx : x.cps.size ≤ 100000)
    (hs : ∀ i c H (G : Hp → Prop) (F : VK), x.cps[i]? = some c → Same H1 H → (∀ H', Same H H' → f i = none → G H') → (∀ y H', Same H H' → f i = some y → F y H') → tc (some (.str ⟨#[c]⟩) :: rest) H fun b H3 => if b = true then te (some (.str ⟨#[c]⟩) :: rest) H3 F else G H3)
    (hd : ∀ H, Same H1 H → H D = some (.lst ((List.range x.cps.size).filterMap f)) → Q (.ref D) H) : CompW (Its x) (gName 0) tc te Q D (none :: rest) H1 := by
  refine comp_strP (fun i σ H => (∃ v, σ = v :: rest) ∧ Same H1 H ∧ H D = some (.lst ((List.range i).filterMap f))) ⟨⟨none, rfl⟩, same_new hD, upd_same⟩ ?_ (fun σ H ⟨_, sm, e⟩ => hd H sm e)
  rintro i c σ H hi ⟨⟨v, rfl⟩, sm, e⟩
  have hil : i < x.cps.size := (Array.getElem?_eq_some_iff.mp hi).1
  refine hs i c H _ _ hi sm (fun H3 s3 ef => ⟨⟨_, rfl⟩, sm.trans s3, by rw [s3 _ _ e, fm_succ, ef]; simp⟩) (fun y H4 s4 ef => ?_)
  refine ⟨_, s4 _ _ e, ?_, ⟨_, rfl⟩, (sm.trans s4).newly hD, ?_⟩
  · have := fm_len f i
    rw [sizeLine_eq]; omega
  · rw [upd_same, fm_succ, ef]; rfl
end
section
variable {X : Cx}
end
end L2
set_option Elab.async false
set_option linter.all false
set_option maxRecDepth 100000
set_option maxHeartbeats 4000000
namespace L2
open PySem PySem.Spec PyProof.Rows PySem.Builtin PySem.Builtin.Str
/-! ### a text put together of parts without the sign between, taken apart there again -/
/-! ### the texts of the numbers below 1000 -/
end L2
set_option Elab.async false
set_option linter.all false
set_option maxRecDepth 100000
set_option maxHeartbeats 4000000
namespace L2
open PySem PySem.Spec PyProof.Rows
/-! ### classes: methods and instances made -/
section
variable (P : Program) (w : World) (K : PySem.W.Frag) (mg : Str → Option Value) (base : Heap)
def MethAt (k : Nat) (C : Addr) (m : Str) (ps : List Str) (sp : Sp) : Prop := ∃ f fd, FnOk P w K mg base CX0 k f fd ps sp ∧ Meth K C m f ∧ Binds K fd ps []
def MethAtX (k : Nat) (C : Addr) (m : Str) (ps : List Str) (sp : Sp) : Prop := ∃ f fd, FnOk P w K mg base (CX1 P w) k f fd ps sp ∧ Meth K C m f ∧ Binds K fd ps []
/-- dvs: the values of the defaults that stand last -/
def MakeAt (k : Nat) (C : Addr) (x : Str) (ps : List Str) (dvs : List V) (sp : Sp) : Prop := ∃ f fd ds, FnOk P w K mg base CX0 k f fd ps sp ∧ Mk K C f ∧ mg x = some (.ref C) ∧ Binds K fd ps ds ∧ Vals dvs ds
def MakeAtX (k : Nat) (C : Addr) (x : Str) (ps : List Str) (dvs : List V) (sp : Sp) : Prop := ∃ f fd ds, FnOk P w K mg base (CX1 P w) k f fd ps sp ∧ Mk K C f ∧ mg x = some (.ref C) ∧ Binds K fd ps ds ∧ Vals dvs ds
/-- the last parameter by its name -/
def MakeAtK (k : Nat) (C : Addr) (x : Str) (ps : List Str) (kn : Str) (sp : Sp) : Prop := ∃ f fd, FnOk P w K mg base (CX1 P w) k f fd ps sp ∧ Mk K C f ∧ mg x = some (.ref C) ∧
  ∀ (s : Shared) (us : List Value) (z : Value), K.In s.heap → (us ++ [z]).length = ps.length → BindsTo s fd ⟨us, [(kn, z)]⟩ (ps.zip (us ++ [z]))
end
section
variable {P : Program} {w : World} {K : PySem.W.Frag} {mg : Str → Option Value} {base : Heap} {k : Nat} {C : Addr} {m x : Str} {ps : List Str} {sp : Sp} {dvs : List V}
theorem FnOk.calm {f : Addr} {fd : FuncData} (G : FnOk P w K mg base (CX1 P w) k f fd ps sp) : FnOk P w K mg base CX0 k f fd ps (fun vs H Q _ => sp vs H Q fun _ _ _ => False) := by
  refine ⟨fun vs H Q E q => G.len vs H Q _ q, fun A outer s H args us vs Q E hr he hbd hv hs => ?_⟩
  refine codeAny_mono (G.run A outer s H args us vs Q (fun _ _ _ => False) hr he hbd hv hs) fun res s' hq => ?_
  match res, hq with
  | .error ev, hq =>
    obtain ⟨e, cls, dx, H', _, _, _, _, _, _, _, _, z⟩ := hq
    exact z.elim
  | .ok (.ret u), hq => exact hq
theorem MethAtX.calm (F : MethAtX P w K mg base k C m ps sp) : MethAt P w K mg base k C m ps (fun vs H Q _ => sp vs H Q fun _ _ _ => False) := by
  obtain ⟨f, fd, G, r⟩ := F
  exact ⟨f, fd, G.calm, r⟩
theorem MakeAtX.calm (F : MakeAtX P w K mg base k C x ps dvs sp) : MakeAt P w K mg base k C x ps dvs (fun vs H Q _ => sp vs H Q fun _ _ _ => False) := by
  obtain ⟨f, fd, ds, G, r⟩ := F
  exact ⟨f, fd, ds, G.calm, r⟩
end
section
variable {X : Cx} {k : Nat} {C : Addr} {x m : Str} {ps : List Str} {sp : Sp} {dvs : List V} {e o : Expr} {es : List Expr} {ta : TE} {t : TA} {p pos apos : Pos} {E : St → XK}
theorem pe_methA {pl : Sem Bool} (M : MethAt X.prog X.w X.K X.mg X.base k C m ps sp) (c : Cls X.K C) (hr : Room k X.A) (he : PE X o ta) (ha : PA X (e :: es) t)
    (hst : starEach (e :: es) X.env = (false, eval e X.env) :: starEach es X.env := by rfl) (hpl : (backTo pos (starEach es X.env)).any (·.1) = false := by rfl)
    (ht : eval (.Call (.Attribute o m apos) (e :: es) [] pos) X.env = (do
      let ov ← eval o X.env
      standAt apos.atName
      let (f, first) ← holding [ov] (getMethod ov m pl)
      callWith pos f first (backTo pos (starEach (e :: es) X.env)) (backToKw pos (keywordEach [] X.env))) := by rfl) :
    PE X (.Call (.Attribute o m apos) (e :: es) [] pos) (tMeth C m sp [] E0 ta t) := by
  obtain ⟨f, fd, G, hm, hb⟩ := M
  exact pe_meth he c hm G hr hb .nil pass0 ha hst hpl ht
theorem pe_methA0 {pl : Sem Bool} (M : MethAt X.prog X.w X.K X.mg X.base k C m ps sp) (c : Cls X.K C) (hr : Room k X.A) (he : PE X o ta)
    (ht : eval (.Call (.Attribute o m apos) [] [] pos) X.env = (do
      let ov ← eval o X.env
      standAt apos.atName
      let (f, first) ← holding [ov] (getMethod ov m pl)
      callWith pos f first (backTo pos (starEach [] X.env)) (backToKw pos (keywordEach [] X.env))) := by rfl) :
    PE X (.Call (.Attribute o m apos) [] [] pos) (tMeth C m sp [] E0 ta tNil) := by
  obtain ⟨f, fd, G, hm, hb⟩ := M
  exact pe_meth0 he c hm G hr hb .nil pass0 ht
/-- the same where the exceptions of the callee go on -/
def tMethX (C : Addr) (m : Str) (sp : Sp) (E : St → XK) (ta : TE) (t : TA) : TE := fun σ H Q => ta σ H fun x H1 => ∃ a dx fs, x = .ref a ∧ H1 a = some (.ins C dx fs) ∧ fs.lookup m = none ∧ t σ H1 fun vs H2 => sp (x :: vs) H2 Q (E σ)
theorem run_fnX {pins : List (Addr × Obj)} {σ : St} {H : Hp} {s : Shared} {Q : VK} {us : List Value} {vs : List V} {f : Addr} {fd : FuncData} (G : FnOk X.prog X.w X.K X.mg X.base (CX1 X.prog X.w) k f fd ps sp) (hx : X.ex = []) (R : Rz X E) (hr : Room k X.A) (hb : Binds X.K fd ps [])
    (I : Inv X pins σ H s) (r : Vals vs us) (q : sp vs H Q (E σ)) : wpAny (model X.prog X.w) X.A (call (.ref f) us) (EP X pins σ Q) X.xe s := by
  have hlen : us.length = ps.length := by rw [← r.length]; exact G.len _ _ _ _ q
  have hbd := hb s us I.kIn (by rw [List.append_nil]; exact hlen)
  rw [List.append_nil] at hbd
  refine wpAny_call (codeAny_mono (G.run X.A X.stack s H ⟨us, []⟩ us vs Q (E σ) hr I.env0 hbd r q) fun res s' hq => ?_)
  match res, hq with
  | .error ev, hq => exact passes1 hx R I hq
  | .ok (.ret u), hq => exact I.after hq
theorem pe_methX {pl : Sem Bool} (M : MethAtX X.prog X.w X.K X.mg X.base k C m ps sp) (c : Cls X.K C) (hx : X.ex = []) (R : Rz X E) (hr : Room k X.A) (he : PE X o ta) (ha : PA X (e :: es) t)
    (hst : starEach (e :: es) X.env = (false, eval e X.env) :: starEach es X.env := by rfl) (hpl : (backTo pos (starEach es X.env)).any (·.1) = false := by rfl)
    (ht : eval (.Call (.Attribute o m apos) (e :: es) [] pos) X.env = (do
      let ov ← eval o X.env
      standAt apos.atName
      let (f, first) ← holding [ov] (getMethod ov m pl)
      callWith pos f first (backTo pos (starEach (e :: es) X.env)) (backToKw pos (keywordEach [] X.env))) := by rfl) :
    PE X (.Call (.Attribute o m apos) (e :: es) [] pos) (tMethX C m sp E ta t) := by
  obtain ⟨f, fd, G, hm, hb⟩ := M
  intro pins s σ H Q I h
  refine PySem.W.methodCall_KW (pl := pl) (thn (he pins s σ H _ I h) fun u s1 ⟨x, H1, I1, rx, a, dx, fs, ex, ea, l, q⟩ => ?_) ht
  subst ex
  obtain rfl : u = Value.ref a := rx
  refine getmeth_ok I1 ea c hm l ?_
  refine PySem.W.callWith_K (first := [.ref a]) (h₀ := X.base) I.ok.mod.kin hm.kp (thn (ha pos pins s1 σ H1 _ I1 q) fun us s2 ⟨vs, H2, I2, r, q2⟩ => ⟨I2.kIn, ?_⟩) hst hpl
  exact run_fnX (us := .ref a :: us) (vs := .ref a :: vs) G hx R hr hb I2 (.cons rfl r) q2
theorem pe_makeA (M : MakeAt X.prog X.w X.K X.mg X.base k C x ps dvs sp) (hr : Room (k + 1) X.A) (hg : Gl X x) (ha : PA X (e :: es) t) (hdb : (x == ("__debug__" : Str)) = false := by decide)
    (he : starEach (e :: es) X.env = (false, eval e X.env) :: starEach es X.env := by rfl) (hpl : (backTo pos (starEach es X.env)).any (·.1) = false := by rfl) :
    PE X (.Call (.Name x p) (e :: es) [] pos) (tMake C sp dvs E0 t) := by
  obtain ⟨f, fd, ds, G, mk, hm, hb, hd⟩ := M
  exact pe_make mk G hr hg hm hb hd pass0 ha hdb he hpl
end
end L2
namespace L2
open PySem PySem.Spec PyProof.Rows PySem.Builtin PySem.Builtin.Str
/-! ### more of classes and texts -/
section
variable {X : Cx} {K : PySem.W.Frag} {o e value : Expr} {f : Str} {pos pos' tpos : Pos} {ta tv : TE}
theorem pe_fldK (hK : X.K = K) (he : PE X e ta) (hb : attributeBase e f X.env (eval e X.env) = eval e X.env) : PE X (.Attribute e f pos) (tFld K ta f) := by subst hK; exact pe_fld he hb
theorem ps_fldK (hK : X.K = K) (ha : PE X o ta) (hv : PE X value tv) (hs : swapsWith value (some (.Attribute o f pos')) pos.line X.env = pure false) : PS X (.Assign [.Attribute o f pos'] value pos) (sFld K ta tv f) := by subst hK; exact ps_fld ha hv hs
theorem ps_fldaugK {op : Operator} {rd : V → V → Hp → VK → Prop} (hK : X.K = K) (ha : PE X o ta) (hv : PE X value tv) (hop : InOp X op rd) : PS X (.AugAssign (.Attribute o f tpos) op value pos) (sFldAug K ta tv rd f) := by subst hK; exact ps_fldaug ha hv hop
def rIdxS : V → List V → Hp → VK → Prop := fun x vs H Q => ∃ (a y : Str) (i : Nat) (r : List Nat), x = .str a ∧ vs = [.str y] ∧ occurrences a y 0 a.length 1 = i :: r ∧ Q (.int i) H
theorem mt_indexS : MtR X "str.index" rIdxS := by
  intro pins s σ H x vs v us Q I rx rv h
  obtain ⟨a, y, i, r, rfl, rfl, ho, q⟩ := h
  obtain ⟨t, rfl⟩ := rx
  obtain ⟨u, rfl, ru⟩ := rv.one
  obtain ⟨t2, rfl⟩ := ru
  exact call_meets PySem.F.slot_str_index (typeIs_str _ _ _) PySem.F.entry_str_index (PySem.F.args_str_index_2 _ _) (gives_str_index a y t t2 i r ho).meets ⟨.int i, H, I.tok _, ⟨_, rfl⟩, q⟩
end
/-! ### a def with defaults -/
structure FunD (K : PySem.W.Frag) (x qual : Str) (st : Stmt) (ds : List Value) (f : Addr) (fd : FuncData) : Prop where
  ex : ∃ (oc : Value) (od : Option Addr) (T : Addr) (kV doc pm : Value) (an : Option Addr) (cdv ct : Value) (osl : Array (Option Value)) (tc : Value) (td : Option Addr) (tn : Nat) (tsl : Array (Option Value)),
    fd = PySem.W.fnOf x qual (defArgs st) (defBody st) (defScope st) (.ref T) kV doc pm an cdv ct ∧ K.lookup f = some ⟨oc, od, .func fd, osl⟩ ∧ PySem.W.codeIn K cdv qual = true ∧ K.lookup T = some ⟨tc, td, .seq ds.toArray tn, tsl⟩
  kp : PySem.W.keepIn K (.ref f) = true
section
variable {P : Program} {w : World} {K : PySem.W.Frag} {mg : Str → Option Value} {base : Heap}
theorem FunD.okX {x qual : Str} {st : Stmt} {ds : List Value} {f : Addr} {fd : FuncData} {N ps : List Str} {k : Nat} {sp : Sp} (F : FunD K x qual st ds f fd) (S : FnScope N ps (defScope st)) (len : ∀ vs H Q E, sp vs H Q E → vs.length = ps.length)
    (hbody : ∀ (cdv : Value) (A : Around) (outer : List Env) (s : Shared) (H : Hp) (vs : List V) (Q : VK) (E : XK), Room k (A.deeper (envOfC qual (defScope st) s.heap.objs.size f cdv)) → sp vs H Q E →
      Rz (cxOf (CX1 P w) P w K mg base N qual (defScope st) f cdv A outer s H E) (fun _ => E) →
      ∃ t, PSs (cxOf (CX1 P w) P w K mg base N qual (defScope st) f cdv A outer s H E) (defBody st) t ∧ t { nx := fun _ H' => Q .non H', rt := Q } (start N vs) H) : FnOk P w K mg base (CX1 P w) (k + 1) f fd ps sp := by
  obtain ⟨oc, od, T, kV, doc, pm, an, cdv, ct, osl, tc, td, tn, tsl, rfl, lk, hcd, _⟩ := F.ex
  exact fn_of lk hcd S len fun A outer s H vs Q E hr hsp => hbody cdv A outer s H vs Q E hr hsp rz_leave
end
/-! ### an instance made with the last parameter by its name -/
section
variable {X : Cx} {k : Nat} {C : Addr} {x kn : Str} {ps : List Str} {sp : Sp} {e ke : Expr} {es : List Expr} {te : TE} {t : TA} {p pos kpos : Pos} {E : St → XK}
end
end L2
set_option Elab.async false
set_option linter.all false
set_option maxRecDepth 100000
set_option maxHeartbeats 4000000
namespace Tim
open PySem PyProof.Rows
/-! ### list.sort of any length: the order of the keys as a rank -/
def gallop' : Bool → Keyed → Array Keyed → Nat → Nat → Nat → StateT SortSt Sem (Option Nat) := sortPriv% PySem.Builtin.gallop
def beyond' (left : Bool) (key : Keyed) (arr : Array Keyed) (base i : Nat) : StateT SortSt Sem (Option Bool) := do
    let x ← elem' arr (base + i)
    if left then lt' x key else return (← lt' key x).map (!·)
theorem gallop'_eq (left : Bool) (key : Keyed) (arr : Array Keyed) (base n hint : Nat) : gallop' left key arr base n hint = (do
  let mut lastofs := 0
  let mut ofs := 1
  let mut lo := 0
  let mut hi := 0
  let some right ← beyond' left key arr base hint | return none
  if right then
    let maxofs := n - hint
    for _ in [0:n] do
      if ofs ≥ maxofs then break
      let some more ← beyond' left key arr base (hint + ofs) | return none
      if !more then break
      lastofs := ofs
      ofs := 2 * ofs + 1
    lo := hint + lastofs + 1
    hi := hint + min ofs maxofs
  else
    let maxofs := hint + 1
    for _ in [0:n] do
      if ofs ≥ maxofs then break
      let some found ← beyond' left key arr base (hint - ofs) | return none
      if found then break
      lastofs := ofs
      ofs := 2 * ofs + 1
    lo := hint + 1 - min ofs maxofs
    hi := hint - lastofs
  for _ in [0:n] do
    if lo ≥ hi then break
    let m := lo + (hi - lo) / 2
    let some more ← beyond' left key arr base m | return none
    if more then lo := m + 1 else hi := m
  return some hi) := rfl
section
variable {prog : Program} {w : World} {A : Around} {E : Value → Shared → Prop} {s : Shared} {κ : SortKind} {a₀ : Array Keyed} {rk : Value → Nat}
structure Cmp (prog : Program) (w : World) (A : Around) (s : Shared) (κ : SortKind) (a₀ : Array Keyed) (rk : Value → Nat) : Prop where
  ask : ∀ p ∈ a₀.toList, ∀ q ∈ a₀.toList, ∀ (E : Value → Shared → Prop) (Q : Bool → Shared → Prop), Q (decide (rk p.1 < rk q.1)) s → wpAny (model prog w) A (keyLt' κ p.1 q.1) Q E s
def R (rk : Value → Nat) (xs : Array Keyed) (i : Nat) : Nat := match xs[i]? with
  | some p => rk p.1
  | none => 0
theorem R_some {xs : Array Keyed} {i : Nat} {p : Keyed} (h : xs[i]? = some p) : R rk xs i = rk p.1 := by unfold R; rw [h]
theorem R_congr {xs ys : Array Keyed} {i j : Nat} (h : xs[i]? = ys[j]?) : R rk xs i = R rk ys j := by unfold R; rw [h]
theorem wpS_lt {st : SortSt} {p q : Keyed} {Q : Option Bool → SortSt → Prop} (C : Cmp prog w A s κ a₀ rk) (hk : kindOf st = κ) (hp : p ∈ a₀.toList) (hq : q ∈ a₀.toList) (h : Q (some (decide (rk p.1 < rk q.1))) st) :
    wpS (model prog w) A E s (lt' p q) Q st := by
  rw [lt'_eq]
  refine wpS_bind (wpS_get ?_)
  rw [hk]
  refine wpS_bind (wpS_lift (wpAny_attempt (C.ask p hp q hq _ _ ⟨rfl, ?_⟩)))
  exact wpS_pure h
theorem wpS_elem {st : SortSt} {arr : Array Keyed} {i : Nat} {p : Keyed} {Q : Keyed → SortSt → Prop} (hi : arr[i]? = some p) (h : Q p st) : wpS (model prog w) A E s (elem' arr i) Q st := by
  rw [elem'_eq, hi]
  exact wpS_pure h
def By (left : Bool) (k r : Nat) : Bool := if left then decide (r < k) else !decide (k < r)
theorem wpS_beyond {st : SortSt} {left : Bool} {key : Keyed} {arr : Array Keyed} {base i : Nat} {Q : Option Bool → SortSt → Prop} (C : Cmp prog w A s κ a₀ rk) (hk : kindOf st = κ) (hkey : key ∈ a₀.toList) (harr : ∀ p ∈ arr.toList, p ∈ a₀.toList)
    (hi : base + i < arr.size) (h : Q (some (By left (rk key.1) (R rk arr (base + i)))) st) : wpS (model prog w) A E s (beyond' left key arr base i) Q st := by
  unfold beyond'
  have e : arr[base + i]? = some arr[base + i] := getElem?_pos arr (base + i) hi
  have hm : arr[base + i] ∈ a₀.toList := harr _ (by simp)
  rw [R_some e] at h
  refine wpS_bind (wpS_elem e ?_)
  cases left with
  | true => exact wpS_lt C hk hm hkey h
  | false => exact wpS_bind (wpS_lt C hk hkey hm (wpS_pure h))
theorem By_anti {left : Bool} {k r r' : Nat} (h : By left k r = true) (le : r' ≤ r) : By left k r' = true := by
  unfold By at *
  cases left <;> simp at * <;> omega
theorem By_anti' {left : Bool} {k r r' : Nat} (h : By left k r = false) (le : r ≤ r') : By left k r' = false := by
  unfold By at *
  cases left <;> simp at * <;> omega
def Seg (rk : Value → Nat) (xs : Array Keyed) (lo hi : Nat) : Prop := ∀ i j, lo ≤ i → i ≤ j → j < hi → R rk xs i ≤ R rk xs j
abbrev GSt := Option (Option Nat) × Nat × Nat
theorem wpS_binLoop {st : SortSt} {left : Bool} {key : Keyed} {arr : Array Keyed} {base n lo hi : Nat} {Q : GSt → SortSt → Prop} (C : Cmp prog w A s κ a₀ rk) (hk : kindOf st = κ) (hkey : key ∈ a₀.toList) (harr : ∀ p ∈ arr.toList, p ∈ a₀.toList)
    (hn : base + n ≤ arr.size) (hs : Seg rk arr base (base + n)) (hlh : lo ≤ hi) (hhn : hi ≤ n)
    (h1 : ∀ i, i < lo → By left (rk key.1) (R rk arr (base + i)) = true) (h2 : ∀ i, hi ≤ i → i < n → By left (rk key.1) (R rk arr (base + i)) = false)
    (h : ∀ k l, k ≤ n → (∀ i, i < k → By left (rk key.1) (R rk arr (base + i)) = true) → (∀ i, k ≤ i → i < n → By left (rk key.1) (R rk arr (base + i)) = false) → Q (none, l, k) st) :
    wpS (model prog w) A E s (forIn [0:n] ((none, lo, hi) : GSt) fun _ __s =>
                if __s.snd.fst ≥ __s.snd.snd then pure (ForInStep.done (none, __s.snd.fst, __s.snd.snd))
                else do
                  let __x ← beyond' left key arr base (__s.snd.fst + (__s.snd.snd - __s.snd.fst) / 2)
                  match __x with
                    | some more =>
                      if more = true then
                        pure (ForInStep.yield (none, __s.snd.fst + (__s.snd.snd - __s.snd.fst) / 2 + 1, __s.snd.snd))
                      else pure (ForInStep.yield (none, __s.snd.fst, __s.snd.fst + (__s.snd.snd - __s.snd.fst) / 2))
                    | _ => pure (ForInStep.done (some none, __s.snd.fst, __s.snd.snd))) Q st := by
  refine wpS_forRange (I := fun x c st' => st' = st ∧ ∃ lo hi, c = (none, lo, hi) ∧ lo ≤ hi ∧ hi ≤ n ∧ hi - lo ≤ n - x ∧ (∀ i, i < lo → By left (rk key.1) (R rk arr (base + i)) = true) ∧ (∀ i, hi ≤ i → i < n → By left (rk key.1) (R rk arr (base + i)) = false)) ?step ?fin ⟨rfl, lo, hi, rfl, hlh, hhn, by omega, h1, h2⟩
  case fin =>
    rintro c st' ⟨rfl, lo, hi, rfl, a1, a2, a3, a4, a5⟩
    have : lo = hi := by omega
    subst this
    exact h _ _ a2 a4 a5
  case step =>
    rintro x c st' _ hx ⟨rfl, lo, hi, rfl, a1, a2, a3, a4, a5⟩
    dsimp only
    by_cases hge : lo ≥ hi
    · rw [if_pos hge]
      have : lo = hi := by omega
      subst this
      exact wpS_pure (h _ _ a2 a4 a5)
    · rw [if_neg hge]
      refine wpS_bind (wpS_beyond C hk hkey harr (by omega) ?_)
      dsimp only
      cases hb : By left (rk key.1) (R rk arr (base + (lo + (hi - lo) / 2))) with
      | true =>
        simp only [if_true]
        refine wpS_pure ⟨rfl, _, _, rfl, by omega, a2, by omega, fun i hi' => ?_, a5⟩
        exact By_anti hb (hs _ _ (by omega) (by omega) (by omega))
      | false =>
        simp only [Bool.false_eq_true, if_false]
        refine wpS_pure ⟨rfl, _, _, rfl, by omega, by omega, by omega, a4, fun i hi' hin => ?_⟩
        exact By_anti' hb (hs _ _ (by omega) (by omega) (by omega))
theorem wpS_gallop {st : SortSt} {left : Bool} {key : Keyed} {arr : Array Keyed} {base n hint : Nat} {Q : Option Nat → SortSt → Prop} (C : Cmp prog w A s κ a₀ rk) (hk : kindOf st = κ) (hkey : key ∈ a₀.toList) (harr : ∀ p ∈ arr.toList, p ∈ a₀.toList)
    (hn : base + n ≤ arr.size) (hh : hint < n) (hs : Seg rk arr base (base + n))
    (h : ∀ k, k ≤ n → (∀ i, i < k → By left (rk key.1) (R rk arr (base + i)) = true) → (∀ i, k ≤ i → i < n → By left (rk key.1) (R rk arr (base + i)) = false) → Q (some k) st) :
    wpS (model prog w) A E s (gallop' left key arr base n hint) Q st := by
  rw [gallop'_eq]
  refine wpS_bind (wpS_beyond C hk hkey harr (by omega) ?_)
  dsimp only
  cases hr : By left (rk key.1) (R rk arr (base + hint)) with
  | true =>
    simp only [if_true]
    refine wpS_bind (wpS_mono (wpS_forRange (I := fun x c st' => st' = st ∧ ∃ l o, c = (none, l, o) ∧ l < o ∧ x < o ∧ hint + l < n ∧ By left (rk key.1) (R rk arr (base + (hint + l))) = true)
      (Q := fun c st' => st' = st ∧ ∃ l o, c = (none, l, o) ∧ l < o ∧ hint + l < n ∧ By left (rk key.1) (R rk arr (base + (hint + l))) = true ∧ (o < n - hint → By left (rk key.1) (R rk arr (base + (hint + o))) = false)) ?step ?fin ⟨rfl, 0, 1, rfl, by omega, by omega, by omega, hr⟩) ?post)
    case fin =>
      rintro c st' ⟨rfl, l, o, rfl, a1, a2, a3, a4⟩
      exact ⟨rfl, l, o, rfl, a1, a3, a4, fun z => by omega⟩
    case step =>
      rintro x c st' _ hx ⟨rfl, l, o, rfl, a1, a2, a3, a4⟩
      dsimp only
      by_cases hge : o ≥ n - hint
      · rw [if_pos hge]
        exact wpS_pure ⟨rfl, l, o, rfl, a1, a3, a4, fun z => by omega⟩
      · rw [if_neg hge]
        refine wpS_bind (wpS_beyond C hk hkey harr (by omega) ?_)
        dsimp only
        cases hb : By left (rk key.1) (R rk arr (base + (hint + o))) with
        | true =>
          simp only [Bool.not_true, Bool.false_eq_true, if_false]
          exact wpS_pure ⟨rfl, o, 2 * o + 1, rfl, by omega, by omega, by omega, hb⟩
        | false =>
          simp only [Bool.not_false, if_true]
          exact wpS_pure ⟨rfl, l, o, rfl, a1, a3, a4, fun _ => hb⟩
    case post =>
      rintro c st' ⟨rfl, l, o, rfl, a1, a2, a3, a4⟩
      dsimp only
      refine wpS_bind (wpS_binLoop C hk hkey harr hn hs (by omega) (by omega) (fun i hi => ?_) (fun i hi hin => ?_) fun k l' b1 b2 b3 => wpS_pure (h k b1 b2 b3))
      · exact By_anti a3 (hs _ _ (by omega) (by omega) (by omega))
      · exact By_anti' (a4 (by omega)) (hs _ _ (by omega) (by omega) (by omega))
  | false =>
    simp only [Bool.false_eq_true, if_false]
    refine wpS_bind (wpS_mono (wpS_forRange (I := fun x c st' => st' = st ∧ ∃ l o, c = (none, l, o) ∧ l < o ∧ x < o ∧ l ≤ hint ∧ By left (rk key.1) (R rk arr (base + (hint - l))) = false)
      (Q := fun c st' => st' = st ∧ ∃ l o, c = (none, l, o) ∧ l < o ∧ l ≤ hint ∧ By left (rk key.1) (R rk arr (base + (hint - l))) = false ∧ (o < hint + 1 → By left (rk key.1) (R rk arr (base + (hint - o))) = true)) ?step ?fin ⟨rfl, 0, 1, rfl, by omega, by omega, by omega, hr⟩) ?post)
    case fin =>
      rintro c st' ⟨rfl, l, o, rfl, a1, a2, a3, a4⟩
      exact ⟨rfl, l, o, rfl, a1, a3, a4, fun z => by omega⟩
    case step =>
      rintro x c st' _ hx ⟨rfl, l, o, rfl, a1, a2, a3, a4⟩
      dsimp only
      by_cases hge : o ≥ hint + 1
      · rw [if_pos hge]
        exact wpS_pure ⟨rfl, l, o, rfl, a1, a3, a4, fun z => by omega⟩
      · rw [if_neg hge]
        refine wpS_bind (wpS_beyond C hk hkey harr (by omega) ?_)
        dsimp only
        cases hb : By left (rk key.1) (R rk arr (base + (hint - o))) with
        | true =>
          simp only [if_true]
          exact wpS_pure ⟨rfl, l, o, rfl, a1, a3, a4, fun _ => hb⟩
        | false =>
          simp only [Bool.false_eq_true, if_false]
          exact wpS_pure ⟨rfl, o, 2 * o + 1, rfl, by omega, by omega, by omega, hb⟩
    case post =>
      rintro c st' ⟨rfl, l, o, rfl, a1, a2, a3, a4⟩
      dsimp only
      refine wpS_bind (wpS_binLoop C hk hkey harr hn hs (by omega) (by omega) (fun i hi => ?_) (fun i hi hin => ?_) fun k l' b1 b2 b3 => wpS_pure (h k b1 b2 b3))
      · exact By_anti (a4 (by omega)) (hs _ _ (by omega) (by omega) (by omega))
      · exact By_anti' a3 (hs _ _ (by omega) (by omega) (by omega))
end
end Tim
set_option Elab.async false
set_option linter.all false
set_option maxRecDepth 100000
set_option maxHeartbeats 4000000
namespace Tim
open PySem PyProof.Rows
def setMinGallop' : Nat → StateT SortSt Sem Unit := sortPriv% PySem.Builtin.setMinGallop
theorem setMinGallop'_eq (g : Nat) : setMinGallop' g = modify fun s => SortSt.mk' (kindOf s) (arrOf s) (pendingOf s) g (failedOf s) := rfl
def mergeLo' : Array Keyed → Array Keyed → StateT SortSt Sem (Array Keyed) := sortPriv% PySem.Builtin.mergeLo
def mergeHi' : Array Keyed → Array Keyed → StateT SortSt Sem (Array Keyed) := sortPriv% PySem.Builtin.mergeHi
abbrev loDone (a b out : Array Keyed) (ia ib : Nat) : Array Keyed := out ++ a.extract ia a.size ++ b.extract ib b.size
abbrev loLast (a b out : Array Keyed) (ia ib : Nat) : Array Keyed := out ++ b.extract ib b.size ++ a.extract ia a.size
theorem mergeLo'_eq (a b : Array Keyed) : mergeLo' a b = (do
  rule "list.sort.merge-lo"
  let total := a.size + b.size
  let mut out : Array Keyed := #[← elem' b 0]
  let mut ia := 0
  let mut ib := 1
  if ib == b.size then return loDone a b out ia ib
  if ia + 1 == a.size then return loLast a b out ia ib
  let mut minGallop := gallopOf (← get)
  for _ in [0:total] do
    let mut acount := 0
    let mut bcount := 0
    for _ in [0:total] do
      let some bWins ← lt' (← elem' b ib) (← elem' a ia) | return loDone a b out ia ib
      if bWins then
        out := out.push (← elem' b ib); ib := ib + 1; bcount := bcount + 1; acount := 0
        if ib == b.size then return loDone a b out ia ib
        if bcount ≥ minGallop then break
      else
        out := out.push (← elem' a ia); ia := ia + 1; acount := acount + 1; bcount := 0
        if ia + 1 == a.size then return loLast a b out ia ib
        if acount ≥ minGallop then break
    rule "list.sort.gallop"
    minGallop := minGallop + 1
    for _ in [0:total] do
      if minGallop > 1 then minGallop := minGallop - 1
      setMinGallop' minGallop
      let some k ← gallop' false (← elem' b ib) a ia (a.size - ia) 0 | return loDone a b out ia ib
      acount := k
      if k > 0 then
        out := out ++ a.extract ia (ia + k); ia := ia + k
        if ia + 1 == a.size then return loLast a b out ia ib
        if ia == a.size then return loDone a b out ia ib
      out := out.push (← elem' b ib); ib := ib + 1
      if ib == b.size then return loDone a b out ia ib
      let some k ← gallop' true (← elem' a ia) b ib (b.size - ib) 0 | return loDone a b out ia ib
      bcount := k
      if k > 0 then
        out := out ++ b.extract ib (ib + k); ib := ib + k
        if ib == b.size then return loDone a b out ia ib
      out := out.push (← elem' a ia); ia := ia + 1
      if ia + 1 == a.size then return loLast a b out ia ib
      if acount < 7 && bcount < 7 then break
    minGallop := minGallop + 1
    setMinGallop' minGallop
  unsupported "internal:list.sort.merge-bound") := rfl
section
variable {rk : Value → Nat} {a b out : Array Keyed} {ia ib k : Nat}
def Le (rk : Value → Nat) (x y : Keyed) : Prop := rk x.1 ≤ rk y.1
def Srt (rk : Value → Nat) (l : List Keyed) : Prop := l.Pairwise (Le rk)
structure MI (rk : Value → Nat) (a b out : Array Keyed) (ia ib : Nat) : Prop where
  perm : (out.toList ++ (a.toList.drop ia ++ b.toList.drop ib)).Perm (a.toList ++ b.toList)
  sa : Srt rk (out.toList ++ a.toList.drop ia)
  sb : Srt rk (out.toList ++ b.toList.drop ib)
structure Mg (rk : Value → Nat) (a b r : Array Keyed) : Prop where
  perm : r.toList.Perm (a.toList ++ b.toList)
  srt : Srt rk r.toList
theorem ext_list (a : Array Keyed) (i j : Nat) : (a.extract i j).toList = (a.toList.drop i).take (j - i) := by
  rw [Array.toList_extract, List.extract_eq_take_drop]
theorem drop_split (l : List Keyed) (i k : Nat) : l.drop i = (l.drop i).take k ++ l.drop (i + k) := by
  rw [← List.drop_drop, List.take_append_drop]
theorem R_get {a : Array Keyed} {i : Nat} (h : i < a.size) : R rk a i = rk (a[i]).1 := R_some (getElem?_pos a i h)
theorem mem_drop {a : Array Keyed} {x : Keyed} (h : x ∈ a.toList.drop ia) : ∃ j, ia ≤ j ∧ j < a.size ∧ R rk a j = rk x.1 := by
  obtain ⟨j, hj, e⟩ := List.getElem_of_mem h
  rw [List.length_drop, Array.length_toList] at hj
  rw [List.getElem_drop, Array.getElem_toList] at e
  exact ⟨ia + j, by (clear e hj; omega), by (clear e; omega), by rw [R_get (by (clear e; omega)), e]⟩
theorem mem_take_drop {a : Array Keyed} {x : Keyed} (h : x ∈ (a.toList.drop ia).take k) : ∃ j, j < k ∧ ia + j < a.size ∧ R rk a (ia + j) = rk x.1 := by
  obtain ⟨j, hj, e⟩ := List.getElem_of_mem h
  rw [List.length_take, List.length_drop, Array.length_toList] at hj
  rw [List.getElem_take, List.getElem_drop, Array.getElem_toList] at e
  exact ⟨j, by (clear e; omega), by (clear e; omega), by rw [R_get (by (clear e; omega)), e]⟩
theorem srt_app {x y : List Keyed} : Srt rk (x ++ y) ↔ Srt rk x ∧ Srt rk y ∧ ∀ p ∈ x, ∀ q ∈ y, rk p.1 ≤ rk q.1 := List.pairwise_append
theorem MI.chunkB (m : MI rk a b out ia ib) (hle : ∀ i, i < k → ib + i < b.size → ∀ j, ia ≤ j → j < a.size → R rk b (ib + i) ≤ R rk a j) : MI rk a b (out ++ b.extract ib (ib + k)) ia (ib + k) := by
  have e : (out ++ b.extract ib (ib + k)).toList = out.toList ++ (b.toList.drop ib).take k := by rw [Array.toList_append, ext_list]; congr 2; omega
  have sp := drop_split b.toList ib k
  refine ⟨?_, ?_, ?_⟩
  · rw [e]
    refine List.Perm.trans ?_ m.perm
    rw [List.append_assoc]
    refine List.Perm.append_left _ ?_
    refine List.Perm.trans ?_ (List.Perm.of_eq (congrArg (a.toList.drop ia ++ ·) sp.symm))
    rw [← List.append_assoc]
    refine List.Perm.trans (List.Perm.append_right _ (List.perm_append_comm)) (List.Perm.of_eq (List.append_assoc _ _ _))
  · rw [e, List.append_assoc]
    have h1 := srt_app.mp m.sa
    have h2 := m.sb
    rw [sp] at h2
    have h3 := srt_app.mp h2
    have h4 := srt_app.mp h3.2.1
    refine srt_app.mpr ⟨h1.1, srt_app.mpr ⟨h4.1, h1.2.1, fun p hp q hq => ?_⟩, fun p hp q hq => ?_⟩
    · obtain ⟨i, i1, i2, i3⟩ := mem_take_drop (rk := rk) hp
      obtain ⟨j, j1, j2, j3⟩ := mem_drop (rk := rk) hq
      rw [← i3, ← j3]
      exact hle i i1 i2 j j1 j2
    · rcases List.mem_append.mp hq with hq | hq
      · exact h3.2.2 p hp q (List.mem_append_left _ hq)
      · exact h1.2.2 p hp q hq
  · rw [e, List.append_assoc, ← sp]
    exact m.sb
theorem MI.swap (m : MI rk a b out ia ib) : MI rk b a out ib ia := ⟨(List.Perm.append_left _ List.perm_append_comm).trans (m.perm.trans List.perm_append_comm), m.sb, m.sa⟩
theorem MI.chunkA (m : MI rk a b out ia ib) (hle : ∀ i, i < k → ia + i < a.size → ∀ j, ib ≤ j → j < b.size → R rk a (ia + i) ≤ R rk b j) : MI rk a b (out ++ a.extract ia (ia + k)) (ia + k) ib := (m.swap.chunkB hle).swap
theorem push_ext (h : ib < b.size) : out.push b[ib] = out ++ b.extract ib (ib + 1) := by
  apply Array.toList_inj.mp
  rw [Array.toList_push, Array.toList_append, ext_list]
  congr 1
  rw [show ib + 1 - ib = 1 by (clear h; omega), List.drop_eq_getElem_cons (by rw [Array.length_toList]; exact h)]
  rfl
theorem MI.pushB (m : MI rk a b out ia ib) (h : ib < b.size) (hle : ∀ j, ia ≤ j → j < a.size → R rk b ib ≤ R rk a j) : MI rk a b (out.push b[ib]) ia (ib + 1) := by
  rw [push_ext h]
  refine m.chunkB (k := 1) fun i hi hb j j1 j2 => ?_
  have : i = 0 := by (clear j2 j1 hb h; omega)
  subst this
  exact hle j j1 j2
theorem MI.pushA (m : MI rk a b out ia ib) (h : ia < a.size) (hle : ∀ j, ib ≤ j → j < b.size → R rk a ia ≤ R rk b j) : MI rk a b (out.push a[ia]) (ia + 1) ib := (m.swap.pushB h hle).swap
theorem MI.done (m : MI rk a b out ia ib) (h : ia = a.size ∨ ib = b.size) : Mg rk a b (loDone a b out ia ib) := by
  have e : (loDone a b out ia ib).toList = out.toList ++ (a.toList.drop ia ++ b.toList.drop ib) := by
    unfold loDone
    rw [Array.toList_append, Array.toList_append, ext_list, ext_list, List.append_assoc]
    congr 2
    · rw [List.take_of_length_le]; rw [List.length_drop, Array.length_toList]; exact Nat.le_refl _
    · rw [List.take_of_length_le]; rw [List.length_drop, Array.length_toList]; exact Nat.le_refl _
  refine ⟨by rw [e]; exact m.perm, ?_⟩
  rw [e]
  rcases h with h | h
  · rw [h, show a.toList.drop a.size = [] by rw [List.drop_eq_nil_of_le]; rw [Array.length_toList]; exact Nat.le_refl _, List.nil_append]
    exact m.sb
  · rw [h, show b.toList.drop b.size = [] by rw [List.drop_eq_nil_of_le]; rw [Array.length_toList]; exact Nat.le_refl _, List.append_nil]
    exact m.sa
theorem MI.last (m : MI rk a b out ia ib) (h : ∀ i j, ib ≤ i → i < b.size → ia ≤ j → j < a.size → R rk b i ≤ R rk a j) : Mg rk a b (loLast a b out ia ib) := by
  have m2 := m.chunkB (k := b.size - ib) fun i hi hb j j1 j2 => h _ _ (by (clear j2 j1 hb hi; omega)) hb j1 j2
  have e : (loLast a b out ia ib) = loDone a b (out ++ b.extract ib (ib + (b.size - ib))) ia (ib + (b.size - ib)) := by
    unfold loDone loLast
    apply Array.toList_inj.mp
    simp only [Array.toList_append, ext_list]
    have e1 : (b.toList.drop (ib + (b.size - ib))).take (b.size - (ib + (b.size - ib))) = [] := by
      rw [List.take_eq_nil_iff]; left; omega
    rw [e1, List.append_nil]
    congr 3
    (clear e1; omega)
  rw [e]
  by_cases hb : ib ≤ b.size
  · exact m2.done (.inr (by (clear e; omega)))
  · refine ⟨?_, ?_⟩
    · have := m2.perm
      have e2 : (loDone a b (out ++ b.extract ib (ib + (b.size - ib))) ia (ib + (b.size - ib))).toList = (out ++ b.extract ib (ib + (b.size - ib))).toList ++ (a.toList.drop ia ++ b.toList.drop (ib + (b.size - ib))) := by
        unfold loDone
        rw [Array.toList_append, Array.toList_append, ext_list, ext_list, List.append_assoc]
        congr 2
        · rw [List.take_of_length_le]; rw [List.length_drop, Array.length_toList]; exact Nat.le_refl _
        · rw [List.take_of_length_le]; rw [List.length_drop, Array.length_toList]; exact Nat.le_refl _
      rw [e2]; exact this
    · unfold loDone
      rw [Array.toList_append, Array.toList_append, ext_list (a := b) (i := ib + (b.size - ib)), show b.size - (ib + (b.size - ib)) = 0 by (clear hb e; omega), List.take_zero, List.append_nil, ext_list (a := a)]
      rw [List.take_of_length_le (by rw [List.length_drop, Array.length_toList]; exact Nat.le_refl _)]
      exact m2.sa
end
end Tim
set_option Elab.async false
set_option linter.all false
set_option maxRecDepth 100000
set_option maxHeartbeats 4000000
namespace Tim
open PySem PyProof.Rows
section
variable {prog : Program} {w : World} {A : Around} {E : Value → Shared → Prop} {s : Shared} {κ : SortKind} {a₀ : Array Keyed} {rk : Value → Nat}
/-- what the state keeps while two runs are merged -/
structure Kpt (st st' : SortSt) : Prop where
  k : kindOf st' = kindOf st
  a : arrOf st' = arrOf st
  p : pendingOf st' = pendingOf st
  f : failedOf st' = failedOf st
theorem Kpt.refl (st : SortSt) : Kpt st st := ⟨rfl, rfl, rfl, rfl⟩
theorem Kpt.trans {a b c : SortSt} (h : Kpt a b) (g : Kpt b c) : Kpt a c := ⟨g.k.trans h.k, g.a.trans h.a, g.p.trans h.p, g.f.trans h.f⟩
theorem wpS_setMG {st : SortSt} {g : Nat} {Q : Unit → SortSt → Prop} (h : ∀ st', Kpt st st' → Q () st') : wpS (model prog w) A E s (setMinGallop' g) Q st := by
  rw [setMinGallop'_eq]
  exact wpS_modify (h _ ⟨rfl, rfl, rfl, rfl⟩)
theorem wpS_ite {α : Type} {c : Prop} [Decidable c] {x y : StateT SortSt Sem α} {Q : α → SortSt → Prop} {st : SortSt} (h1 : c → wpS (model prog w) A E s x Q st) (h2 : ¬ c → wpS (model prog w) A E s y Q st) : wpS (model prog w) A E s (if c then x else y) Q st := by
  by_cases hc : c
  · rw [if_pos hc]; exact h1 hc
  · rw [if_neg hc]; exact h2 hc
theorem By_t {k r : Nat} (h : By true k r = true) : r < k := by simpa [By] using h
theorem By_f {k r : Nat} (h : By false k r = true) : r ≤ k := by simpa [By] using h
theorem By_t' {k r : Nat} (h : By true k r = false) : k ≤ r := by simpa [By] using h
theorem By_f' {k r : Nat} (h : By false k r = false) : k < r := by simpa [By] using h
theorem wpS_mergeLo {st : SortSt} {a b : Array Keyed} {Q : Array Keyed → SortSt → Prop} (C : Cmp prog w A s κ a₀ rk) (hk : kindOf st = κ) (ha : ∀ p ∈ a.toList, p ∈ a₀.toList) (hb : ∀ p ∈ b.toList, p ∈ a₀.toList)
    (ha1 : 1 ≤ a.size) (hb1 : 1 ≤ b.size) (sa : Seg rk a 0 a.size) (sb : Seg rk b 0 b.size) (h0 : R rk b 0 ≤ R rk a 0) (hl : R rk b (b.size - 1) ≤ R rk a (a.size - 1))
    (h : ∀ r st', Kpt st st' → Mg rk a b r → Q r st') : wpS (model prog w) A E s (mergeLo' a b) Q st := by
  have inb : ∀ i, i < b.size → ∃ p, b[i]? = some p ∧ p ∈ a₀.toList ∧ R rk b i = rk p.1 := fun i hi => ⟨b[i], getElem?_pos b i hi, hb _ (by simp), R_get hi⟩
  have ina : ∀ i, i < a.size → ∃ p, a[i]? = some p ∧ p ∈ a₀.toList ∧ R rk a i = rk p.1 := fun i hi => ⟨a[i], getElem?_pos a i hi, ha _ (by simp), R_get hi⟩
  have mid : ∀ i j, i < b.size → j + 1 = a.size → R rk b i ≤ R rk a j := fun i j hi hj => by
    have := sb i (b.size - 1) (by (clear hj hi hl h0 hb1 ha1 hk; lia)) (by (clear hj hl h0 hb1 ha1 hk; lia)) (by (clear hj hi hl h0 ha1 hk; lia))
    have e : a.size - 1 = j := by (clear this hi hl h0 hb1 ha1 hk; lia)
    rw [e] at hl
    (clear e hj hi h0 hb1 ha1 hk; lia)
  have m0 : MI rk a b #[b[0]] 0 1 := by
    have m : MI rk a b #[] 0 0 := by
      refine ⟨by simp, ?_, ?_⟩
      · show Srt rk ([] ++ a.toList.drop 0)
        rw [List.nil_append, List.drop_zero]
        refine List.pairwise_iff_getElem.mpr fun i j hi hj hij => ?_
        rw [Array.length_toList] at hi hj
        have := sa i j (by (clear hij hj hi hl h0 hb1 ha1 hk; lia)) (by (clear hj hi hl h0 hb1 ha1 hk; lia)) hj
        rw [R_get hi, R_get hj] at this
        simpa [Le] using this
      · show Srt rk ([] ++ b.toList.drop 0)
        rw [List.nil_append, List.drop_zero]
        refine List.pairwise_iff_getElem.mpr fun i j hi hj hij => ?_
        rw [Array.length_toList] at hi hj
        have := sb i j (by (clear hij hj hi hl h0 hb1 ha1 hk; lia)) (by (clear hj hi hl h0 hb1 ha1 hk; lia)) hj
        rw [R_get hi, R_get hj] at this
        simpa [Le] using this
    exact m.pushB (by (clear hl h0 ha1 hk; lia)) fun j _ j2 => Nat.le_trans h0 (sa 0 j (by (clear j2 hl h0 hb1 ha1 hk; lia)) (by (clear j2 hl h0 hb1 ha1 hk; lia)) j2)
  rw [mergeLo'_eq]
  refine wpS_bind (wpS_lift (wpAny_rule ⟨rfl, ?_⟩))
  refine wpS_bind (wpS_elem (p := b[0]) (getElem?_pos b 0 (by (clear hl h0 ha1 hk; lia))) ?_)
  dsimp only
  refine wpS_ite (fun e => ?_) (fun e => ?_)
  · have e : 1 = b.size := by simpa using e
    exact wpS_pure (h _ _ (.refl _) (m0.done (.inr e)))
  have eb : ¬ 1 = b.size := by simpa using e
  refine wpS_ite (fun e => ?_) (fun e => ?_)
  · have e : 1 = a.size := by simpa using e
    exact wpS_pure (h _ _ (.refl _) (m0.last fun i j _ hi _ hj => mid i j hi (by (clear hi eb hl h0 ha1 hk; lia))))
  have ea : ¬ 1 = a.size := by simpa using e
  refine wpS_bind (wpS_get ?_)
  refine wpS_bind (wpS_mono (wpS_forRange (I := fun x c st' => Kpt st st' ∧ ∃ out ia ib mg, c = (none, out, ia, ib, mg) ∧ MI rk a b out ia ib ∧ ia + 2 ≤ a.size ∧ ib + 1 ≤ b.size ∧ (a.size - ia) + (b.size - ib) + x ≤ a.size + b.size)
      (Q := fun c st' => Kpt st st' ∧ ∃ r cc, c = (some r, cc) ∧ Mg rk a b r) ?step ?fin ⟨.refl _, _, _, _, _, rfl, m0, by (clear e eb hl h0 hk; lia), by (clear ea e hl h0 ha1 hk; lia), by (clear ea e eb hl h0 ha1 hk; lia)⟩) ?post)
  case post =>
    rintro c st' ⟨kp, r, cc, rfl, m⟩
    exact wpS_pure (h _ _ kp m)
  case fin =>
    rintro c st' ⟨kp, out, ia, ib, mg, rfl, m, a1, b1, le⟩
    (clear b1 ea e eb hl h0 ha1 hk; lia)
  case step =>
    rintro x c st' _ hx ⟨kp, out, ia, ib, mg, rfl, m, a1, b1, le⟩
    dsimp only
    -- one by one
    refine wpS_bind (wpS_mono (wpS_forRange (I := fun y c st2 => st2 = st' ∧ ∃ out ia ib ac bc, c = (none, out, ia, ib, ac, bc) ∧ MI rk a b out ia ib ∧ ia + 2 ≤ a.size ∧ ib + 1 ≤ b.size ∧ (a.size - ia) + (b.size - ib) + x + y ≤ a.size + b.size)
      (Q := fun c st2 => st2 = st' ∧ ((∃ r cc, c = (some r, cc) ∧ Mg rk a b r) ∨ ∃ out ia ib ac bc, c = (none, out, ia, ib, ac, bc) ∧ MI rk a b out ia ib ∧ ia + 2 ≤ a.size ∧ ib + 1 ≤ b.size ∧ (a.size - ia) + (b.size - ib) + x + 1 ≤ a.size + b.size)) ?step1 ?fin1 ⟨rfl, _, _, _, _, _, rfl, m, a1, b1, by (clear b1 a1 hx ea e eb hl h0 ha1 hk; lia)⟩) ?post1)
    case fin1 =>
      rintro c st2 ⟨rfl, out, ia, ib, ac, bc, rfl, m, a1, b1, le⟩
      (clear b1 hx ea e eb hl h0 ha1 hk; lia)
    case step1 =>
      rintro y c st2 _ hy ⟨rfl, out, ia, ib, ac, bc, rfl, m, a1, b1, le⟩
      dsimp only
      obtain ⟨p, ep, mp, rp⟩ := inb ib (by (clear le a1 hy hx ea e eb hl h0 ha1 hk; lia))
      obtain ⟨q, eq, mq, rq⟩ := ina ia (by (clear rp ep le b1 hy hx ea e eb hl h0 ha1 hk; lia))
      refine wpS_bind (wpS_elem ep (wpS_bind (wpS_elem eq (wpS_bind (wpS_lt C (kp.k.trans hk) mp mq ?_)))))
      dsimp only
      have epb : p = b[ib] := by rw [getElem?_pos b ib (by (clear rq eq rp ep le a1 hy hx ea e eb hl h0 ha1 hk; lia))] at ep; exact (Option.some.inj ep).symm
      have eqa : q = a[ia] := by rw [getElem?_pos a ia (by (clear epb rq eq rp ep le b1 hy hx ea e eb hl h0 ha1 hk; lia))] at eq; exact (Option.some.inj eq).symm
      refine wpS_ite (fun lt => ?_) (fun lt => ?_)
      · have lt : R rk b ib < R rk a ia := by rw [rp, rq]; simpa using lt
        have m2 : MI rk a b (out.push p) ia (ib + 1) := by
          rw [epb]
          exact m.pushB (by (clear lt eqa epb rq eq rp ep le a1 hy hx ea e eb hl h0 ha1 hk; lia)) fun j j1 j2 => by have := sa ia j (by (clear j2 j1 lt eqa epb rq eq rp ep le b1 a1 hy hx ea e eb hl h0 ha1 hk; lia)) j1 j2; (clear j2 j1 eqa epb rq eq rp ep le b1 a1 hy hx ea e eb hl h0 ha1 hk; lia)
        refine wpS_bind (wpS_elem ep ?_)
        refine wpS_ite (fun e => ?_) (fun e => ?_)
        · exact wpS_pure ⟨rfl, .inl ⟨_, _, rfl, m2.done (.inr (by simpa using e))⟩⟩
        have e : ¬ ib + 1 = b.size := by simpa using e
        refine wpS_ite (fun _ => ?_) (fun _ => ?_)
        · exact wpS_pure ⟨rfl, .inr ⟨_, _, _, _, _, rfl, m2, a1, by (clear lt eqa epb rq eq rp ep le a1 hy hx ea eb hl h0 ha1 hk; lia), by (clear e lt eqa epb rq eq rp ep a1 hy hx ea eb hl h0 ha1 hk; lia)⟩⟩
        · exact wpS_pure ⟨rfl, _, _, _, _, _, rfl, m2, a1, by (clear lt eqa epb rq eq rp ep le a1 hy hx ea eb hl h0 ha1 hk; lia), by (clear e lt eqa epb rq eq rp ep a1 hy hx ea eb hl h0 ha1 hk; lia)⟩
      · have lt : R rk a ia ≤ R rk b ib := by rw [rp, rq]; simpa using lt
        have m2 : MI rk a b (out.push q) (ia + 1) ib := by
          rw [eqa]
          exact m.pushA (by (clear lt eqa epb rq eq rp ep le b1 hy hx ea e eb hl h0 ha1 hk; lia)) fun j j1 j2 => by have := sb ib j (by (clear j2 j1 lt eqa epb rq eq rp ep le b1 a1 hy hx ea e eb hl h0 ha1 hk; lia)) j1 j2; (clear j2 j1 eqa epb rq eq rp ep le b1 a1 hy hx ea e eb hl h0 ha1 hk; lia)
        refine wpS_bind (wpS_elem eq ?_)
        refine wpS_ite (fun e => ?_) (fun e => ?_)
        · have e : ia + 1 + 1 = a.size := by simpa using e
          exact wpS_pure ⟨rfl, .inl ⟨_, _, rfl, m2.last fun i j _ hi _ hj => mid i j hi (by (clear hi lt eqa epb rq eq rp ep le b1 a1 hy hx ea eb hl h0 ha1 hk; lia))⟩⟩
        have e : ¬ ia + 1 + 1 = a.size := by simpa using e
        refine wpS_ite (fun _ => ?_) (fun _ => ?_)
        · exact wpS_pure ⟨rfl, .inr ⟨_, _, _, _, _, rfl, m2, by (clear lt eqa epb rq eq rp ep le b1 hy hx ea eb hl h0 ha1 hk; lia), b1, by (clear e lt eqa epb rq eq rp ep b1 hy hx ea eb hl h0 ha1 hk; lia)⟩⟩
        · exact wpS_pure ⟨rfl, _, _, _, _, _, rfl, m2, by (clear lt eqa epb rq eq rp ep le b1 hy hx ea eb hl h0 ha1 hk; lia), b1, by (clear e lt eqa epb rq eq rp ep b1 hy hx ea eb hl h0 ha1 hk; lia)⟩
    case post1 =>
      rintro c st2 ⟨rfl, (⟨r, cc, rfl, mr⟩ | ⟨out, ia, ib, ac, bc, rfl, m, a1, b1, le⟩)⟩
      · exact wpS_pure ⟨kp, r, _, rfl, mr⟩
      dsimp only
      refine wpS_bind (wpS_lift (wpAny_rule ⟨rfl, ?_⟩))
      -- by leaps
      refine wpS_bind (wpS_mono (wpS_forRange (I := fun y c st3 => Kpt st st3 ∧ ∃ out ia ib mg ac bc, c = (none, out, ia, ib, mg, ac, bc) ∧ MI rk a b out ia ib ∧ ia + 2 ≤ a.size ∧ ib + 1 ≤ b.size ∧ (a.size - ia) + (b.size - ib) + x + 1 + y ≤ a.size + b.size)
        (Q := fun c st3 => Kpt st st3 ∧ ((∃ r cc, c = (some r, cc) ∧ Mg rk a b r) ∨ ∃ out ia ib mg ac bc, c = (none, out, ia, ib, mg, ac, bc) ∧ MI rk a b out ia ib ∧ ia + 2 ≤ a.size ∧ ib + 1 ≤ b.size ∧ (a.size - ia) + (b.size - ib) + x + 1 ≤ a.size + b.size)) ?step2 ?fin2 ⟨kp, _, _, _, _, _, _, rfl, m, a1, b1, by (clear b1 a1 hx ea e eb hl h0 ha1 hk; lia)⟩) ?post2)
      case fin2 =>
        rintro c st3 ⟨kp3, out, ia, ib, mg, ac, bc, rfl, m, a1, b1, le⟩
        (clear b1 a1 hx ea e eb hl h0 ha1 hk; lia)
      case post2 =>
        rintro c st3 ⟨kp3, (⟨r, cc, rfl, mr⟩ | ⟨out, ia, ib, mg, ac, bc, rfl, m, a1, b1, le⟩)⟩
        · exact wpS_pure ⟨kp3, r, _, rfl, mr⟩
        dsimp only
        refine wpS_bind (wpS_setMG fun st4 k4 => wpS_pure ⟨kp3.trans k4, _, _, _, _, rfl, m, a1, b1, by (clear b1 a1 hx ea e eb hl h0 ha1 hk; lia)⟩)
      case step2 =>
        rintro y c st3 _ hy ⟨kp3, out, ia, ib, mg, ac, bc, rfl, m, a1, b1, le⟩
        dsimp only
        refine wpS_ite (fun _ => ?_) (fun _ => ?_)
        all_goals
          refine wpS_bind (wpS_setMG fun st4 k4 => ?_)
          have kp4 := kp3.trans k4
          obtain ⟨p, ep, mp, rp⟩ := inb ib (by (clear le a1 hy hx ea e eb hl h0 ha1 hk; lia))
          have epb : p = b[ib] := by rw [getElem?_pos b ib (by (clear rp ep le a1 hy hx ea e eb hl h0 ha1 hk; lia))] at ep; exact (Option.some.inj ep).symm
          refine wpS_bind (wpS_elem ep (wpS_bind (wpS_gallop C (kp4.k.trans hk) mp ha (by (clear epb rp ep le b1 hy hx ea e eb hl h0 ha1 hk; lia)) (by (clear epb rp ep le b1 hy hx ea e eb hl h0 ha1 hk; lia)) (fun i j h1 h2 h3 => sa i j (by (clear h3 h2 h1 epb rp ep le b1 a1 hy hx ea e eb hl h0 ha1 hk; lia)) h2 (by (clear h2 h1 epb rp ep le b1 hy hx ea e eb hl h0 ha1 hk; lia))) fun k k1 k2 k3 => ?_)))
          dsimp only
          have mA : MI rk a b (out ++ a.extract ia (ia + k)) (ia + k) ib := m.chunkA (k := k) fun i hi hs j j1 j2 => by
            have e1 := By_f (k2 i hi)
            have e2 := sb ib j (by (clear e1 j2 j1 hs hi k1 epb rp ep le b1 a1 hy hx ea e eb hl h0 ha1 hk; lia)) j1 j2
            rw [rp] at e2
            (clear j2 j1 hs hi k1 epb rp ep le b1 a1 hy hx ea e eb hl h0 ha1 hk; lia)
          have nxt : ∀ j, ia + k ≤ j → j < a.size → R rk b ib ≤ R rk a j := fun j j1 j2 => by
            have := By_f' (k3 (j - ia) (by (clear j2 k1 epb rp ep le b1 a1 hy hx ea e eb hl h0 ha1 hk; lia)) (by (clear j1 k1 epb rp ep le b1 hy hx ea e eb hl h0 ha1 hk; lia)))
            rw [show ia + (j - ia) = j by (clear this j2 k1 epb rp ep le b1 a1 hy hx ea e eb hl h0 ha1 hk; lia)] at this
            rw [rp]; (clear j2 j1 k1 epb rp ep le b1 a1 hy hx ea e eb hl h0 ha1 hk; lia)
          apply wpS_ite
          case' h1 =>
            intro kpos
            refine wpS_ite (fun e => ?_) (fun e => ?_)
            · have e : ia + k + 1 = a.size := by simpa using e
              exact wpS_pure ⟨kp4, .inl ⟨_, _, rfl, mA.last fun i j _ hi _ hj => mid i j hi (by (clear hi kpos k1 epb rp ep le b1 a1 hy hx ea eb hl h0 ha1 hk; lia))⟩⟩
            have e1 : ¬ ia + k + 1 = a.size := by simpa using e
            refine wpS_ite (fun e => ?_) (fun e => ?_)
            · exact wpS_pure ⟨kp4, .inl ⟨_, _, rfl, mA.done (.inl (by simpa using e))⟩⟩
            have e2 : ¬ ia + k = a.size := by simpa using e
            have a3 : ia + k + 2 ≤ a.size := by (clear e kpos epb rp ep le b1 hy hx ea eb hl h0 ha1 hk; lia)
            have le3 : (a.size - (ia + k)) + (b.size - ib) + x + 1 + y ≤ a.size + b.size := by (clear a3 e2 e e1 kpos k1 epb rp ep b1 a1 hy hx ea eb hl h0 ha1 hk; lia)
            generalize out ++ a.extract ia (ia + k) = out3 at mA ⊢
            generalize ia + k = ia3 at mA nxt a3 le3 ⊢
          case' h2 =>
            intro kpos
            have k0 : k = 0 := by (clear k1 epb rp ep le b1 a1 hy hx ea e eb hl h0 ha1 hk; lia)
            have a3 : ia + 2 ≤ a.size := by (clear k0 kpos k1 epb rp ep le b1 hy hx ea e eb hl h0 ha1 hk; lia)
            have le3 : (a.size - ia) + (b.size - ib) + x + 1 + y ≤ a.size + b.size := by (clear a3 k0 kpos k1 epb rp ep b1 a1 hy hx ea e eb hl h0 ha1 hk; lia)
            subst k0
            replace nxt : ∀ j, ia ≤ j → j < a.size → R rk b ib ≤ R rk a j := nxt
            replace mA := m
          all_goals
            have mB := mA.pushB (by (clear kpos k1 le3 a3 epb rp ep le a1 hy hx ea e eb hl h0 ha1 hk; lia)) nxt
            rw [← epb] at mB
            refine wpS_bind (wpS_elem ep ?_)
            refine wpS_ite (fun e => ?_) (fun e => ?_)
            · exact wpS_pure ⟨kp4, .inl ⟨_, _, rfl, mB.done (.inr (by simpa using e))⟩⟩
            have e3 : ¬ ib + 1 = b.size := by simpa using e
            obtain ⟨q, eq, mq, rq⟩ := ina _ (show _ < a.size from Nat.lt_of_lt_of_le (Nat.lt_succ_of_lt (Nat.lt_succ_self _)) a3)
            refine wpS_bind (wpS_elem eq (wpS_bind (wpS_gallop C (kp4.k.trans hk) mq hb (by (clear rq eq e3 e kpos k1 le3 a3 epb rp ep le a1 hy hx ea eb hl h0 ha1 hk; lia)) (by (clear rq eq e kpos k1 le3 a3 epb rp ep le a1 hy hx ea eb hl h0 ha1 hk; lia)) (fun i j h1 h2 h3 => sb i j (by (clear h3 h2 h1 rq eq e3 e kpos k1 le3 a3 epb rp ep le b1 a1 hy hx ea eb hl h0 ha1 hk; lia)) h2 (by (clear h2 h1 rq eq e3 e kpos k1 le3 a3 epb rp ep le a1 hy hx ea eb hl h0 ha1 hk; lia))) fun k' l1 l2 l3 => ?_)))
            dsimp only
            have mC := mB.chunkB (k := k') fun i hi hs j j1 j2 => by
              have e1 := By_t (l2 i hi)
              have e2 := sa _ j (by (clear e1 j2 j1 hs hi l1 rq eq e3 e kpos k1 le3 a3 epb rp ep le b1 a1 hy hx ea eb hl h0 ha1 hk; lia)) j1 j2
              rw [rq] at e2
              (clear j2 j1 hs hi l1 rq eq e3 e kpos k1 le3 a3 epb rp ep le b1 a1 hy hx ea eb hl h0 ha1 hk; lia)
            apply wpS_ite
            case' h1 =>
              intro kpos
              refine wpS_ite (fun e => ?_) (fun e => ?_)
              · exact wpS_pure ⟨kp4, .inl ⟨_, _, rfl, mC.done (.inr (by simpa using e))⟩⟩
              have e5 : ¬ ib + 1 + k' = b.size := by simpa using e
              have nx : ∀ j, ib + 1 + k' ≤ j → j < b.size → rk q.1 ≤ R rk b j := fun j j1 j2 => by
                have := By_t' (l3 (j - (ib + 1)) (by (clear j2 e5 e kpos l1 rq eq e3 k1 le3 a3 epb rp ep le b1 a1 hy hx ea eb hl h0 ha1 hk; lia)) (by (clear j1 e5 e kpos l1 rq eq k1 le3 a3 epb rp ep le a1 hy hx ea eb hl h0 ha1 hk; lia)))
                rw [show ib + 1 + (j - (ib + 1)) = j by (clear this j2 e5 e kpos l1 rq eq e3 k1 le3 a3 epb rp ep le b1 a1 hy hx ea eb hl h0 ha1 hk; lia)] at this
                (clear j2 j1 e5 e kpos l1 rq eq e3 k1 le3 a3 epb rp ep le b1 a1 hy hx ea eb hl h0 ha1 hk; lia)
              have b3 : ib + 1 + k' + 1 ≤ b.size := by (clear e kpos rq eq e3 k1 le3 a3 epb rp ep le a1 hy hx ea eb hl h0 ha1 hk; lia)
            case' h2 =>
              intro kpos
              have k0 : k' = 0 := by (clear l1 rq eq e3 e k1 le3 a3 epb rp ep le b1 a1 hy hx ea eb hl h0 ha1 hk; lia)
              have nx : ∀ j, ib + 1 ≤ j → j < b.size → rk q.1 ≤ R rk b j := fun j j1 j2 => by
                have := By_t' (l3 (j - (ib + 1)) (by (clear j2 j1 k0 l1 rq eq e3 e k1 le3 a3 epb rp ep le b1 a1 hy hx ea eb hl h0 ha1 hk; lia)) (by (clear j1 k0 kpos l1 rq eq e k1 le3 a3 epb rp ep le a1 hy hx ea eb hl h0 ha1 hk; lia)))
                rw [show ib + 1 + (j - (ib + 1)) = j by (clear this j2 k0 kpos l1 rq eq e3 e k1 le3 a3 epb rp ep le b1 a1 hy hx ea eb hl h0 ha1 hk; lia)] at this
                (clear j2 j1 k0 kpos l1 rq eq e3 e k1 le3 a3 epb rp ep le b1 a1 hy hx ea eb hl h0 ha1 hk; lia)
              have b3 : ib + 1 + 1 ≤ b.size := by (clear k0 kpos l1 rq eq e k1 le3 a3 epb rp ep le a1 hy hx ea eb hl h0 ha1 hk; lia)
              replace mC := mB
            all_goals
              have mD := mC.pushA (by (clear b3 kpos l1 rq eq e3 e k1 le3 epb rp ep le b1 hy hx ea eb hl h0 ha1 hk; lia)) (fun j j1 j2 => by rw [rq]; exact nx j j1 j2)
              have eqa := Option.some.inj ((getElem?_pos a _ (by (clear b3 kpos l1 rq eq e3 e k1 le3 epb rp ep le b1 hy hx ea eb hl h0 ha1 hk; lia))).symm.trans eq)
              rw [eqa] at mD
              refine wpS_bind (wpS_elem eq ?_)
              refine wpS_ite (fun e => ?_) (fun e => ?_)
              · exact wpS_pure ⟨kp4, .inl ⟨_, _, rfl, mD.last fun i j _ hi _ hj => mid i j hi (by have e := eq_of_beq e; (clear hi eqa b3 kpos l1 rq eq e3 k1 le3 a3 epb rp ep le b1 a1 hy hx ea eb hl h0 ha1 hk; lia))⟩⟩
              have e6 : ¬ _ = a.size := fun z => e (beq_iff_eq.mpr z)
              refine wpS_ite (fun _ => ?_) (fun _ => ?_)
              · exact wpS_pure ⟨kp4, .inr ⟨_, _, _, _, _, _, rfl, mD, by (clear e eqa b3 kpos l1 rq eq e3 k1 le3 epb rp ep le b1 hy hx ea eb hl h0 ha1 hk; lia), by (clear e6 e eqa b3 kpos rq eq k1 le3 a3 epb rp ep le a1 hy hx ea eb hl h0 ha1 hk; lia), by (clear e6 e eqa b3 kpos l1 rq eq e3 k1 a3 epb rp ep b1 a1 hy hx ea eb hl h0 ha1 hk; lia)⟩⟩
              · exact wpS_pure ⟨kp4, _, _, _, _, _, _, rfl, mD, by (clear e eqa b3 kpos l1 rq eq e3 k1 le3 epb rp ep le b1 hy hx ea eb hl h0 ha1 hk; lia), by (clear e6 e eqa b3 kpos rq eq k1 le3 a3 epb rp ep le a1 hy hx ea eb hl h0 ha1 hk; lia), by (clear e6 e eqa b3 kpos l1 rq eq e3 k1 a3 epb rp ep hy hx ea eb hl h0 ha1 hk; lia)⟩
end
end Tim
set_option Elab.async false
set_option linter.all false
set_option maxRecDepth 100000
set_option maxHeartbeats 4000000
namespace Tim
open PySem PyProof.Rows
abbrev hiDone (a b out : Array Keyed) (na nb : Nat) : Array Keyed := a.extract 0 na ++ b.extract 0 nb ++ out.reverse
abbrev hiFirst (a b out : Array Keyed) (na nb : Nat) : Array Keyed := b.extract 0 nb ++ a.extract 0 na ++ out.reverse
theorem mergeHi'_eq (a b : Array Keyed) : mergeHi' a b = (do
  rule "list.sort.merge-hi"
  let total := a.size + b.size
  let mut na := a.size - 1
  let mut nb := b.size
  let mut out : Array Keyed := #[← elem' a na]
  if na == 0 then return hiDone a b out na nb
  if nb == 1 then return hiFirst a b out na nb
  let mut minGallop := gallopOf (← get)
  for _ in [0:total] do
    let mut acount := 0
    let mut bcount := 0
    for _ in [0:total] do
      let some aWins ← lt' (← elem' b (nb - 1)) (← elem' a (na - 1)) | return hiDone a b out na nb
      if aWins then
        na := na - 1; out := out.push (← elem' a na); acount := acount + 1; bcount := 0
        if na == 0 then return hiDone a b out na nb
        if acount ≥ minGallop then break
      else
        nb := nb - 1; out := out.push (← elem' b nb); bcount := bcount + 1; acount := 0
        if nb == 1 then return hiFirst a b out na nb
        if bcount ≥ minGallop then break
    rule "list.sort.gallop"
    minGallop := minGallop + 1
    for _ in [0:total] do
      if minGallop > 1 then minGallop := minGallop - 1
      setMinGallop' minGallop
      let some at_ ← gallop' false (← elem' b (nb - 1)) a 0 na (na - 1) | return hiDone a b out na nb
      let k := na - at_
      acount := k
      if k > 0 then
        out := out ++ (a.extract at_ na).reverse; na := at_
        if na == 0 then return hiDone a b out na nb
      nb := nb - 1; out := out.push (← elem' b nb)
      if nb == 1 then return hiFirst a b out na nb
      let some at_ ← gallop' true (← elem' a (na - 1)) b 0 nb (nb - 1) | return hiDone a b out na nb
      let k := nb - at_
      bcount := k
      if k > 0 then
        out := out ++ (b.extract at_ nb).reverse; nb := at_
        if nb == 1 then return hiFirst a b out na nb
        if nb == 0 then return hiDone a b out na nb
      na := na - 1; out := out.push (← elem' a na)
      if na == 0 then return hiDone a b out na nb
      if acount < 7 && bcount < 7 then break
    minGallop := minGallop + 1
    setMinGallop' minGallop
  unsupported "internal:list.sort.merge-bound") := rfl
section
variable {rk : Value → Nat} {a b out : Array Keyed} {na nb k : Nat}
structure MH (rk : Value → Nat) (a b out : Array Keyed) (na nb : Nat) : Prop where
  perm : (a.toList.take na ++ (b.toList.take nb ++ out.toList.reverse)).Perm (a.toList ++ b.toList)
  sa : Srt rk (a.toList.take na ++ out.toList.reverse)
  sb : Srt rk (b.toList.take nb ++ out.toList.reverse)
theorem take_split (l : List Keyed) {i j : Nat} (h : i ≤ j) : l.take j = l.take i ++ (l.drop i).take (j - i) := by
  rw [List.take_drop, show i + (j - i) = j by lia]
  have := (List.take_append_drop i (l.take j)).symm
  rwa [List.take_take, Nat.min_eq_left h] at this
theorem mem_take' {a : Array Keyed} {x : Keyed} (h : x ∈ a.toList.take na) : ∃ j, j < na ∧ j < a.size ∧ R rk a j = rk x.1 := by
  have h' : x ∈ (a.toList.drop 0).take na := by rw [List.drop_zero]; exact h
  obtain ⟨j, j1, j2, j3⟩ := mem_take_drop (rk := rk) h'
  rw [Nat.zero_add] at j2 j3
  exact ⟨j, j1, j2, j3⟩
theorem MH.chunkA (m : MH rk a b out na nb) {at_ : Nat} (hat : at_ ≤ na) (hle : ∀ i, at_ ≤ i → i < na → i < a.size → ∀ j, j < nb → j < b.size → R rk b j ≤ R rk a i) : MH rk a b (out ++ (a.extract at_ na).reverse) at_ nb := by
  have e : (out ++ (a.extract at_ na).reverse).toList.reverse = (a.toList.drop at_).take (na - at_) ++ out.toList.reverse := by
    rw [Array.toList_append, List.reverse_append, Array.toList_reverse, List.reverse_reverse, ext_list]
  have sp := take_split a.toList hat
  refine ⟨?_, ?_, ?_⟩
  · rw [e]
    refine List.Perm.trans ?_ m.perm
    rw [sp, List.append_assoc]
    refine List.Perm.append_left _ ?_
    rw [← List.append_assoc, ← List.append_assoc]
    exact List.Perm.append_right _ List.perm_append_comm
  · rw [e, ← List.append_assoc, ← sp]
    exact m.sa
  · rw [e]
    have h1 := m.sa
    rw [sp, List.append_assoc] at h1
    have h2 := srt_app.mp (srt_app.mp h1).2.1
    have h3 := srt_app.mp m.sb
    refine srt_app.mpr ⟨h3.1, srt_app.mpr ⟨h2.1, h3.2.1, h2.2.2⟩, fun p hp q hq => ?_⟩
    rcases List.mem_append.mp hq with hq | hq
    · obtain ⟨i, i1, i2, i3⟩ := mem_take' (rk := rk) hp
      obtain ⟨j, j1, j2, j3⟩ := mem_take_drop (rk := rk) hq
      rw [← i3, ← j3]
      exact hle _ (by (clear j3 j2 j1 i3 i2 i1 h3 h2 sp e hat; lia)) (by (clear j3 j2 i3 i2 i1 h3 h2 sp e hat; lia)) j2 i i1 i2
    · exact h3.2.2 p hp q hq
theorem MH.swap (m : MH rk a b out na nb) : MH rk b a out nb na := by
  refine ⟨?_, m.sb, m.sa⟩
  refine List.Perm.trans ?_ (m.perm.trans List.perm_append_comm)
  rw [← List.append_assoc, ← List.append_assoc]
  exact List.Perm.append_right _ List.perm_append_comm
theorem MH.chunkB (m : MH rk a b out na nb) {at_ : Nat} (hat : at_ ≤ nb) (hle : ∀ i, at_ ≤ i → i < nb → i < b.size → ∀ j, j < na → j < a.size → R rk a j ≤ R rk b i) : MH rk a b (out ++ (b.extract at_ nb).reverse) na at_ := (m.swap.chunkA hat hle).swap
theorem push_rev (h1 : 1 ≤ na) (h : na ≤ a.size) : out.push (a[na - 1]'(by lia)) = out ++ (a.extract (na - 1) na).reverse := by
  have e := push_ext (out := #[]) (b := a) (ib := na - 1) (by lia)
  rw [show na - 1 + 1 = na by (clear e h; lia)] at e
  have e2 : a.extract (na - 1) na = #[a[na - 1]'(by (clear e; lia))] := by
    apply Array.toList_inj.mp
    have := congrArg Array.toList e
    rw [Array.toList_append] at this
    simpa using this.symm
  rw [e2]
  apply Array.toList_inj.mp
  simp
theorem MH.pushA (m : MH rk a b out na nb) (h1 : 1 ≤ na) (h : na ≤ a.size) (hle : ∀ j, j < nb → j < b.size → R rk b j ≤ R rk a (na - 1)) : MH rk a b (out.push (a[na - 1]'(by lia))) (na - 1) nb := by
  rw [push_rev h1 h]
  refine m.chunkA (by (clear h h1; lia)) fun i i1 i2 i3 j j1 j2 => ?_
  have : i = na - 1 := by (clear j2 j1 i3 h h1; lia)
  subst this
  exact hle j j1 j2
theorem MH.pushB (m : MH rk a b out na nb) (h1 : 1 ≤ nb) (h : nb ≤ b.size) (hle : ∀ j, j < na → j < a.size → R rk a j ≤ R rk b (nb - 1)) : MH rk a b (out.push (b[nb - 1]'(by lia))) na (nb - 1) := (m.swap.pushA h1 h hle).swap
theorem hi_list : (hiDone a b out na nb).toList = a.toList.take na ++ (b.toList.take nb ++ out.toList.reverse) := by
  unfold hiDone
  rw [Array.toList_append, Array.toList_append, ext_list, ext_list, Array.toList_reverse, List.append_assoc]
  rfl
theorem MH.done (m : MH rk a b out na nb) (h : na = 0 ∨ nb = 0) : Mg rk a b (hiDone a b out na nb) := by
  refine ⟨by rw [hi_list]; exact m.perm, ?_⟩
  rw [hi_list]
  rcases h with h | h
  · subst h
    exact m.sb
  · subst h
    exact m.sa
theorem MH.first (m : MH rk a b out na nb) (h : ∀ i j, i < nb → i < b.size → j < na → j < a.size → R rk b i ≤ R rk a j) : Mg rk a b (hiFirst a b out na nb) := by
  have m2 := m.chunkA (at_ := 0) (by lia) fun i _ i2 i3 j j1 j2 => h j i j1 j2 i2 i3
  have e : hiFirst a b out na nb = hiDone a b (out ++ (a.extract 0 na).reverse) 0 nb := by
    apply Array.toList_inj.mp
    rw [hi_list, hi_list, Array.toList_append, List.reverse_append, Array.toList_reverse, List.reverse_reverse, ext_list]
    simp
  rw [e]
  exact m2.done (.inl rfl)
end
section
variable {prog : Program} {w : World} {A : Around} {E : Value → Shared → Prop} {s : Shared} {κ : SortKind} {a₀ : Array Keyed} {rk : Value → Nat}
theorem wpS_mergeHi {st : SortSt} {a b : Array Keyed} {Q : Array Keyed → SortSt → Prop} (C : Cmp prog w A s κ a₀ rk) (hk : kindOf st = κ) (ha : ∀ p ∈ a.toList, p ∈ a₀.toList) (hb : ∀ p ∈ b.toList, p ∈ a₀.toList)
    (ha1 : 1 ≤ a.size) (hb1 : 1 ≤ b.size) (sa : Seg rk a 0 a.size) (sb : Seg rk b 0 b.size) (h0 : R rk b 0 ≤ R rk a 0) (hl : R rk b (b.size - 1) ≤ R rk a (a.size - 1))
    (h : ∀ r st', Kpt st st' → Mg rk a b r → Q r st') : wpS (model prog w) A E s (mergeHi' a b) Q st := by
  have inb : ∀ i, i < b.size → ∃ p, b[i]? = some p ∧ p ∈ a₀.toList ∧ R rk b i = rk p.1 := fun i hi => ⟨b[i], getElem?_pos b i hi, hb _ (by simp), R_get hi⟩
  have ina : ∀ i, i < a.size → ∃ p, a[i]? = some p ∧ p ∈ a₀.toList ∧ R rk a i = rk p.1 := fun i hi => ⟨a[i], getElem?_pos a i hi, ha _ (by simp), R_get hi⟩
  have mid : ∀ i j nb, i < nb → nb = 1 → j < a.size → R rk b i ≤ R rk a j := fun i j nb hi hn hj => by
    have := sa 0 j (by (clear hj hn hi hl h0 hb1 ha1 hk; lia)) (by (clear hj hn hi hl h0 hb1 ha1 hk; lia)) hj
    have e : i = 0 := by (clear this hj hl h0 hb1 ha1 hk; lia)
    subst e
    (clear hi hj hn hl hb1 ha1 hk; lia)
  have m0 : MH rk a b #[a[a.size - 1]] (a.size - 1) b.size := by
    have m : MH rk a b #[] a.size b.size := by
      refine ⟨?_, ?_, ?_⟩
      · rw [← Array.length_toList, ← Array.length_toList, List.take_length, List.take_length]; simp
      · rw [← Array.length_toList, List.take_length]
        show Srt rk (a.toList ++ [])
        rw [List.append_nil]
        refine List.pairwise_iff_getElem.mpr fun i j hi hj hij => ?_
        rw [Array.length_toList] at hi hj
        have := sa i j (by (clear hij hj hi hl h0 hb1 ha1 hk; lia)) (by (clear hj hi hl h0 hb1 ha1 hk; lia)) hj
        rw [R_get hi, R_get hj] at this
        simpa [Le] using this
      · rw [← Array.length_toList, List.take_length]
        show Srt rk (b.toList ++ [])
        rw [List.append_nil]
        refine List.pairwise_iff_getElem.mpr fun i j hi hj hij => ?_
        rw [Array.length_toList] at hi hj
        have := sb i j (by (clear hij hj hi hl h0 hb1 ha1 hk; lia)) (by (clear hj hi hl h0 hb1 ha1 hk; lia)) hj
        rw [R_get hi, R_get hj] at this
        simpa [Le] using this
    exact m.pushA ha1 (Nat.le_refl _) fun j j1 j2 => Nat.le_trans (sb j (b.size - 1) (by (clear j2 j1 hl h0 hb1 ha1 hk; lia)) (by (clear j2 hl h0 hb1 ha1 hk; lia)) (by (clear j2 j1 hl h0 ha1 hk; lia))) hl
  rw [mergeHi'_eq]
  refine wpS_bind (wpS_lift (wpAny_rule ⟨rfl, ?_⟩))
  refine wpS_bind (wpS_elem (p := a[a.size - 1]) (getElem?_pos a _ (by (clear hl h0 hb1 hk; lia))) ?_)
  dsimp only
  refine wpS_ite (fun e => ?_) (fun e => ?_)
  · exact wpS_pure (h _ _ (.refl _) (m0.done (.inl (by simpa using e))))
  have ea : ¬ a.size - 1 = 0 := fun z => e (beq_iff_eq.mpr z)
  refine wpS_ite (fun e => ?_) (fun e => ?_)
  · exact wpS_pure (h _ _ (.refl _) (m0.first fun i j i1 i2 j1 j2 => mid i j _ i1 (by simpa using e) j2))
  have eb : ¬ b.size = 1 := by simpa using e
  refine wpS_bind (wpS_get ?_)
  refine wpS_bind (wpS_mono (wpS_forRange (I := fun x c st' => Kpt st st' ∧ ∃ na nb out mg, c = (none, na, nb, out, mg) ∧ MH rk a b out na nb ∧ 1 ≤ na ∧ 2 ≤ nb ∧ na ≤ a.size ∧ nb ≤ b.size ∧ na + nb + x ≤ a.size + b.size)
      (Q := fun c st' => Kpt st st' ∧ ∃ r cc, c = (some r, cc) ∧ Mg rk a b r) ?step ?fin ⟨.refl _, _, _, _, _, rfl, m0, by (clear eb e hl h0 hb1 hk; lia), by (clear e ea hl h0 hk; lia), by (clear eb e ea hl h0 hb1 hk; lia), by (clear eb e ea hl h0 hb1 hk; lia), by (clear eb e ea hl h0 hb1 hk; lia)⟩) ?post)
  case post =>
    rintro c st' ⟨kp, r, cc, rfl, m⟩
    exact wpS_pure (h _ _ kp m)
  case fin =>
    rintro c st' ⟨kp, na, nb, out, mg, rfl, m, a1, b1, a2, b2, le⟩
    (clear b2 a2 b1 eb e ea hl h0 hb1 hk; lia)
  case step =>
    rintro x c st' _ hx ⟨kp, na, nb, out, mg, rfl, m, a1, b1, a2, b2, le⟩
    dsimp only
    refine wpS_bind (wpS_mono (wpS_forRange (I := fun y c st2 => st2 = st' ∧ ∃ na nb out ac bc, c = (none, na, nb, out, ac, bc) ∧ MH rk a b out na nb ∧ 1 ≤ na ∧ 2 ≤ nb ∧ na ≤ a.size ∧ nb ≤ b.size ∧ na + nb + x + y ≤ a.size + b.size)
      (Q := fun c st2 => st2 = st' ∧ ((∃ r cc, c = (some r, cc) ∧ Mg rk a b r) ∨ ∃ na nb out ac bc, c = (none, na, nb, out, ac, bc) ∧ MH rk a b out na nb ∧ 1 ≤ na ∧ 2 ≤ nb ∧ na ≤ a.size ∧ nb ≤ b.size ∧ na + nb + x + 1 ≤ a.size + b.size)) ?step1 ?fin1 ⟨rfl, _, _, _, _, _, rfl, m, a1, b1, a2, b2, by (clear b2 a2 b1 a1 hx eb e ea hl h0 hb1 hk; lia)⟩) ?post1)
    case fin1 =>
      rintro c st2 ⟨rfl, na, nb, out, ac, bc, rfl, m, a1, b1, a2, b2, le⟩
      (clear b2 a2 b1 hx eb e ea hl h0 hb1 hk; lia)
    case step1 =>
      rintro y c st2 _ hy ⟨rfl, na, nb, out, ac, bc, rfl, m, a1, b1, a2, b2, le⟩
      dsimp only
      obtain ⟨p, ep, mp, rp⟩ := inb (nb - 1) (by (clear le a2 b1 a1 hy hx eb e ea hl h0 hb1 hk; lia))
      obtain ⟨q, eq, mq, rq⟩ := ina (na - 1) (by (clear rp ep le b2 b1 a1 hy hx eb e ea hl h0 hb1 hk; lia))
      refine wpS_bind (wpS_elem ep (wpS_bind (wpS_elem eq (wpS_bind (wpS_lt C (kp.k.trans hk) mp mq ?_)))))
      dsimp only
      have epb : b[nb - 1] = p := Option.some.inj ((getElem?_pos b _ (by (clear rq eq rp ep le a2 b1 a1 hy hx eb e ea hl h0 hb1 hk; lia))).symm.trans ep)
      have eqa : a[na - 1] = q := Option.some.inj ((getElem?_pos a _ (by (clear epb rq eq rp ep le b2 b1 a1 hy hx eb e ea hl h0 hb1 hk; lia))).symm.trans eq)
      refine wpS_ite (fun lt => ?_) (fun lt => ?_)
      · have lt : R rk b (nb - 1) < R rk a (na - 1) := by rw [rp, rq]; simpa using lt
        have m2 := m.pushA a1 a2 fun j j1 j2 => by have := sb j (nb - 1) (by (clear j2 j1 lt eqa epb rq eq rp ep le b2 a2 b1 a1 hy hx eb e ea hl h0 hb1 hk; lia)) (by (clear j2 lt eqa epb rq eq rp ep le b2 a2 b1 a1 hy hx eb e ea hl h0 hb1 hk; lia)) (by (clear j2 j1 lt eqa epb rq eq rp ep le a2 b1 a1 hy hx eb e ea hl h0 hb1 hk; lia)); (clear j2 j1 eqa epb rq eq rp ep le b2 a2 b1 a1 hy hx eb e ea hl h0 hb1 hk; lia)
        rw [eqa] at m2
        refine wpS_bind (wpS_elem eq ?_)
        refine wpS_ite (fun e => ?_) (fun e => ?_)
        · exact wpS_pure ⟨rfl, .inl ⟨_, _, rfl, m2.done (.inl (by simpa using e))⟩⟩
        have e : ¬ na - 1 = 0 := fun z => e (beq_iff_eq.mpr z)
        refine wpS_ite (fun _ => ?_) (fun _ => ?_)
        · exact wpS_pure ⟨rfl, .inr ⟨_, _, _, _, _, rfl, m2, by (clear lt eqa epb rq eq rp ep le b2 a2 b1 a1 hy hx eb ea hl h0 hb1 hk; lia), b1, by (clear e lt eqa epb rq eq rp ep le b2 b1 a1 hy hx eb ea hl h0 hb1 hk; lia), b2, by (clear e lt eqa epb rq eq rp ep b2 a2 b1 hy hx eb ea hl h0 hb1 hk; lia)⟩⟩
        · exact wpS_pure ⟨rfl, _, _, _, _, _, rfl, m2, by (clear lt eqa epb rq eq rp ep le b2 a2 b1 a1 hy hx eb ea hl h0 hb1 hk; lia), b1, by (clear e lt eqa epb rq eq rp ep le b2 b1 a1 hy hx eb ea hl h0 hb1 hk; lia), b2, by (clear e lt eqa epb rq eq rp ep b2 a2 b1 hy hx eb ea hl h0 hb1 hk; lia)⟩
      · have lt : R rk a (na - 1) ≤ R rk b (nb - 1) := by rw [rp, rq]; simpa using lt
        have m2 := m.pushB (by (clear lt eqa epb rq eq rp ep le b2 a2 a1 hy hx eb e ea hl h0 hb1 hk; lia)) b2 fun j j1 j2 => by have := sa j (na - 1) (by (clear j2 j1 lt eqa epb rq eq rp ep le b2 a2 b1 a1 hy hx eb e ea hl h0 hb1 hk; lia)) (by (clear j2 lt eqa epb rq eq rp ep le b2 a2 b1 a1 hy hx eb e ea hl h0 hb1 hk; lia)) (by (clear j2 j1 lt eqa epb rq eq rp ep le b2 b1 a1 hy hx eb e ea hl h0 hb1 hk; lia)); (clear j2 j1 eqa epb rq eq rp ep le b2 a2 b1 a1 hy hx eb e ea hl h0 hb1 hk; lia)
        rw [epb] at m2
        refine wpS_bind (wpS_elem ep ?_)
        refine wpS_ite (fun e => ?_) (fun e => ?_)
        · exact wpS_pure ⟨rfl, .inl ⟨_, _, rfl, m2.first fun i j i1 i2 j1 j2 => mid i j _ i1 (eq_of_beq e) j2⟩⟩
        have e : ¬ nb - 1 = 1 := fun z => e (beq_iff_eq.mpr z)
        refine wpS_ite (fun _ => ?_) (fun _ => ?_)
        · exact wpS_pure ⟨rfl, .inr ⟨_, _, _, _, _, rfl, m2, a1, by (clear lt eqa epb rq eq rp ep le b2 a2 a1 hy hx eb ea hl h0 hb1 hk; lia), a2, by (clear e lt eqa epb rq eq rp ep le a2 b1 a1 hy hx eb ea hl h0 hb1 hk; lia), by (clear e lt eqa epb rq eq rp ep b2 a2 a1 hy hx eb ea hl h0 hb1 hk; lia)⟩⟩
        · exact wpS_pure ⟨rfl, _, _, _, _, _, rfl, m2, a1, by (clear lt eqa epb rq eq rp ep le b2 a2 a1 hy hx eb ea hl h0 hb1 hk; lia), a2, by (clear e lt eqa epb rq eq rp ep le a2 b1 a1 hy hx eb ea hl h0 hb1 hk; lia), by (clear e lt eqa epb rq eq rp ep b2 a2 a1 hy hx eb ea hl h0 hb1 hk; lia)⟩
    case post1 =>
      rintro c st2 ⟨rfl, (⟨r, cc, rfl, mr⟩ | ⟨na, nb, out, ac, bc, rfl, m, a1, b1, a2, b2, le⟩)⟩
      · exact wpS_pure ⟨kp, r, _, rfl, mr⟩
      dsimp only
      refine wpS_bind (wpS_lift (wpAny_rule ⟨rfl, ?_⟩))
      refine wpS_bind (wpS_mono (wpS_forRange (I := fun y c st3 => Kpt st st3 ∧ ∃ na nb out mg ac bc, c = (none, na, nb, out, mg, ac, bc) ∧ MH rk a b out na nb ∧ 1 ≤ na ∧ 2 ≤ nb ∧ na ≤ a.size ∧ nb ≤ b.size ∧ na + nb + x + 1 + y ≤ a.size + b.size)
        (Q := fun c st3 => Kpt st st3 ∧ ((∃ r cc, c = (some r, cc) ∧ Mg rk a b r) ∨ ∃ na nb out mg ac bc, c = (none, na, nb, out, mg, ac, bc) ∧ MH rk a b out na nb ∧ 1 ≤ na ∧ 2 ≤ nb ∧ na ≤ a.size ∧ nb ≤ b.size ∧ na + nb + x + 1 ≤ a.size + b.size)) ?step2 ?fin2 ⟨kp, _, _, _, _, _, _, rfl, m, a1, b1, a2, b2, by (clear b2 a2 b1 a1 hx eb e ea hl h0 hb1 hk; lia)⟩) ?post2)
      case fin2 =>
        rintro c st3 ⟨kp3, na, nb, out, mg, ac, bc, rfl, m, a1, b1, a2, b2, le⟩
        (clear b2 a2 b1 a1 hx eb e ea hl h0 hb1 hk; lia)
      case post2 =>
        rintro c st3 ⟨kp3, (⟨r, cc, rfl, mr⟩ | ⟨na, nb, out, mg, ac, bc, rfl, m, a1, b1, a2, b2, le⟩)⟩
        · exact wpS_pure ⟨kp3, r, _, rfl, mr⟩
        dsimp only
        refine wpS_bind (wpS_setMG fun st4 k4 => wpS_pure ⟨kp3.trans k4, _, _, _, _, rfl, m, a1, b1, a2, b2, by (clear b2 a2 b1 a1 hx eb e ea hl h0 hb1 hk; lia)⟩)
      case step2 =>
        rintro y c st3 _ hy ⟨kp3, na, nb, out, mg, ac, bc, rfl, m, a1, b1, a2, b2, le⟩
        dsimp only
        refine wpS_ite (fun _ => ?_) (fun _ => ?_)
        all_goals
          refine wpS_bind (wpS_setMG fun st4 k4 => ?_)
          have kp4 := kp3.trans k4
          obtain ⟨p, ep, mp, rp⟩ := inb (nb - 1) (by (clear le a2 b1 a1 hy hx eb e ea hl h0 hb1 hk; lia))
          have epb : b[nb - 1] = p := Option.some.inj ((getElem?_pos b _ (by (clear rp ep le a2 b1 a1 hy hx eb e ea hl h0 hb1 hk; lia))).symm.trans ep)
          refine wpS_bind (wpS_elem ep (wpS_bind (wpS_gallop C (kp4.k.trans hk) mp ha (by (clear epb rp ep le b2 b1 a1 hy hx eb e ea hl h0 hb1 hk; lia)) (by (clear epb rp ep le b2 a2 b1 hy hx eb e ea hl h0 hb1 hk; lia)) (fun i j h1 h2 h3 => sa i j (by (clear h3 h2 h1 epb rp ep le b2 a2 b1 a1 hy hx eb e ea hl h0 hb1 hk; lia)) h2 (by (clear h2 h1 epb rp ep le b2 b1 a1 hy hx eb e ea hl h0 hb1 hk; lia))) fun k k1 k2 k3 => ?_)))
          dsimp only
          simp only [Nat.zero_add] at k2 k3
          have mA := m.chunkA k1 fun i i1 i2 i3 j j1 j2 => by
            have e1 := By_f' (k3 i i1 i2)
            have e2 := sb j (nb - 1) (by (clear e1 j2 j1 i3 i2 i1 k1 epb rp ep le b2 a2 b1 a1 hy hx eb e ea hl h0 hb1 hk; lia)) (by (clear e1 j2 i3 i2 i1 k1 epb rp ep le b2 a2 b1 a1 hy hx eb e ea hl h0 hb1 hk; lia)) (by (clear e1 j2 j1 i3 i2 i1 k1 epb rp ep le a2 b1 a1 hy hx eb e ea hl h0 hb1 hk; lia))
            (clear j2 j1 i3 i2 i1 k1 epb ep le b2 a2 b1 a1 hy hx eb e ea hl h0 hb1 hk; lia)
          have nxt : ∀ j, j < k → j < a.size → R rk a j ≤ R rk b (nb - 1) := fun j j1 j2 => by
            have := By_f (k2 j j1)
            (clear j2 j1 k1 epb ep le b2 a2 b1 a1 hy hx eb e ea hl h0 hb1 hk; lia)
          apply wpS_ite
          case' h1 =>
            intro kpos
            refine wpS_ite (fun e => ?_) (fun e => ?_)
            · exact wpS_pure ⟨kp4, .inl ⟨_, _, rfl, mA.done (.inl (by simpa using e))⟩⟩
            have e1 : ¬ k = 0 := fun z => e (beq_iff_eq.mpr z)
            have a3 : 1 ≤ k := by (clear e kpos k1 epb rp ep le b2 a2 b1 a1 hy hx eb ea hl h0 hb1 hk; lia)
            have a4 : k ≤ a.size := by (clear a3 e1 e kpos epb rp ep le b2 b1 a1 hy hx eb ea hl h0 hb1 hk; lia)
            have le3 : k + nb + x + 1 + y ≤ a.size + b.size := by (clear a4 a3 e1 e kpos epb rp ep b2 a2 b1 a1 hy hx eb ea hl h0 hb1 hk; lia)
          case' h2 =>
            intro kpos
            have k0 : k = na := by (clear epb rp ep le b2 a2 b1 a1 hy hx eb e ea hl h0 hb1 hk; lia)
            have a3 : 1 ≤ na := a1
            have a4 : na ≤ a.size := a2
            have le3 : na + nb + x + 1 + y ≤ a.size + b.size := by (clear a4 a3 k0 kpos k1 epb rp ep b2 a2 b1 a1 hy hx eb e ea hl h0 hb1 hk; lia)
            rw [k0] at nxt
            replace mA := m
          all_goals
            have mB := mA.pushB (by (clear le3 a4 a3 kpos k1 epb rp ep le b2 a2 a1 hy hx eb e ea hl h0 hb1 hk; lia)) b2 nxt
            rw [epb] at mB
            refine wpS_bind (wpS_elem ep ?_)
            refine wpS_ite (fun e => ?_) (fun e => ?_)
            · exact wpS_pure ⟨kp4, .inl ⟨_, _, rfl, mB.first fun i j i1 i2 j1 j2 => mid i j _ i1 (eq_of_beq e) j2⟩⟩
            have e3 : ¬ nb - 1 = 1 := fun z => e (beq_iff_eq.mpr z)
            obtain ⟨q, eq, mq, rq⟩ := ina _ (Nat.lt_of_lt_of_le (Nat.sub_lt a3 Nat.one_pos) a4)
            refine wpS_bind (wpS_elem eq (wpS_bind (wpS_gallop C (kp4.k.trans hk) mq hb (by (clear rq eq e3 e le3 a4 a3 kpos k1 epb rp ep le a2 b1 a1 hy hx eb ea hl h0 hb1 hk; lia)) (by (clear rq eq e3 e le3 a4 a3 kpos k1 epb rp ep le b2 a2 a1 hy hx eb ea hl h0 hb1 hk; lia)) (fun i j h1 h2 h3 => sb i j (by (clear h3 h2 h1 rq eq e3 e le3 a4 a3 kpos k1 epb rp ep le b2 a2 b1 a1 hy hx eb ea hl h0 hb1 hk; lia)) h2 (by (clear h2 h1 rq eq e3 e le3 a4 a3 kpos k1 epb rp ep le a2 b1 a1 hy hx eb ea hl h0 hb1 hk; lia))) fun k' l1 l2 l3 => ?_)))
            dsimp only
            simp only [Nat.zero_add] at l2 l3
            have mC := mB.chunkB l1 fun i i1 i2 i3 j j1 j2 => by
              have e1 := By_t' (l3 i i1 i2)
              have e2 := sa j _ (by (clear e1 j2 j1 i3 i2 i1 l1 rq eq e3 e le3 a4 a3 kpos k1 epb rp ep le b2 a2 b1 a1 hy hx eb ea hl h0 hb1 hk; lia)) (Nat.le_sub_one_of_lt j1) (by (clear e1 j2 j1 i3 i2 i1 l1 rq eq e3 e le3 a4 a3 kpos epb rp ep le b2 b1 a1 hy hx eb ea hl h0 hb1 hk; lia))
              (clear j2 j1 i3 i2 i1 l1 eq e3 e le3 a4 a3 kpos k1 epb rp ep le b2 a2 b1 a1 hy hx eb ea hl h0 hb1 hk; lia)
            have nx : ∀ j, j < k' → j < b.size → R rk b j ≤ rk q.1 := fun j j1 j2 => by
              have := By_t (l2 j j1)
              (clear j2 j1 l1 rq eq e3 e le3 a4 a3 kpos k1 epb rp ep le b2 a2 b1 a1 hy hx eb ea hl h0 hb1 hk; lia)
            apply wpS_ite
            case' h1 =>
              intro kpos
              refine wpS_ite (fun e => ?_) (fun e => ?_)
              · exact wpS_pure ⟨kp4, .inl ⟨_, _, rfl, mC.first fun i j i1 i2 j1 j2 => mid i j _ i1 (eq_of_beq e) j2⟩⟩
              have e4 : ¬ k' = 1 := fun z => e (beq_iff_eq.mpr z)
              refine wpS_ite (fun e => ?_) (fun e => ?_)
              · exact wpS_pure ⟨kp4, .inl ⟨_, _, rfl, mC.done (.inr (by simpa using e))⟩⟩
              have e5 : ¬ k' = 0 := fun z => e (beq_iff_eq.mpr z)
              have b3 : 2 ≤ k' := by (clear e kpos l1 rq eq e3 le3 a4 a3 k1 epb rp ep le b2 a2 b1 a1 hy hx eb ea hl h0 hb1 hk; lia)
            case' h2 =>
              intro kpos
              have k0 : k' = nb - 1 := by (clear rq eq e3 e le3 a4 a3 k1 epb rp ep le b2 a2 b1 a1 hy hx eb ea hl h0 hb1 hk; lia)
              rw [k0] at nx
              have b3 : 2 ≤ nb - 1 := by (clear k0 kpos l1 rq eq e le3 a4 a3 k1 epb rp ep le b2 a2 a1 hy hx eb ea hl h0 hb1 hk; lia)
              replace mC := mB
            all_goals
              have mD := mC.pushA a3 a4 (fun j j1 j2 => by rw [rq]; exact nx j j1 j2)
              have eqa := Option.some.inj ((getElem?_pos a _ (by (clear b3 kpos l1 rq eq e3 e le3 k1 epb rp ep le b2 a2 b1 a1 hy hx eb ea hl h0 hb1 hk; lia))).symm.trans eq)
              rw [eqa] at mD
              refine wpS_bind (wpS_elem eq ?_)
              refine wpS_ite (fun e => ?_) (fun e => ?_)
              · exact wpS_pure ⟨kp4, .inl ⟨_, _, rfl, mD.done (.inl (eq_of_beq e))⟩⟩
              have e6 : ¬ _ = 0 := fun z => e (beq_iff_eq.mpr z)
              refine wpS_ite (fun _ => ?_) (fun _ => ?_)
              · exact wpS_pure ⟨kp4, .inr ⟨_, _, _, _, _, _, rfl, mD, by (clear e eqa b3 kpos l1 rq eq e3 le3 a4 a3 k1 epb rp ep le b2 a2 b1 a1 hy hx eb ea hl h0 hb1 hk; lia), by (clear e6 e eqa b3 kpos l1 rq eq le3 a4 a3 k1 epb rp ep le b2 a2 a1 hy hx eb ea hl h0 hb1 hk; lia), by (clear e6 e eqa b3 kpos l1 rq eq e3 le3 a4 a3 k1 epb rp ep le b2 b1 a1 hy hx eb ea hl h0 hb1 hk; lia), by (clear e6 e eqa b3 kpos rq eq e3 le3 a4 a3 k1 epb rp ep le a2 b1 a1 hy hx eb ea hl h0 hb1 hk; lia), by (clear e6 e eqa b3 kpos rq eq e3 le3 a4 a3 k1 epb rp ep b2 a2 b1 a1 hy hx eb ea hl h0 hb1 hk; lia)⟩⟩
              · exact wpS_pure ⟨kp4, _, _, _, _, _, _, rfl, mD, by (clear e eqa b3 kpos l1 rq eq e3 le3 a4 a3 k1 epb rp ep le b2 a2 b1 a1 hy hx eb ea hl h0 hb1 hk; lia), by (clear e6 e eqa b3 kpos l1 rq eq le3 a4 a3 k1 epb rp ep le b2 a2 a1 hy hx eb ea hl h0 hb1 hk; lia), by (clear e6 e eqa b3 kpos l1 rq eq e3 le3 a4 a3 k1 epb rp ep le b2 b1 a1 hy hx eb ea hl h0 hb1 hk; lia), by (clear e6 e eqa b3 kpos rq eq e3 le3 a4 a3 k1 epb rp ep le a2 b1 a1 hy hx eb ea hl h0 hb1 hk; lia), by (clear e6 e eqa b3 kpos rq eq e3 le3 a4 a3 k1 epb rp ep b2 a2 b1 hy hx eb ea hl h0 hb1 hk; lia)⟩
end
end Tim
set_option Elab.async false
set_option linter.all false
set_option maxRecDepth 100000
set_option maxHeartbeats 4000000
namespace Tim
open PySem PyProof.Rows
section
variable {prog : Program} {w : World} {A : Around} {E : Value → Shared → Prop} {s : Shared} {κ : SortKind} {a₀ : Array Keyed} {rk : Value → Nat} {pd : Array (Nat × Nat × Nat)}
structure SB (κ : SortKind) (a₀ : Array Keyed) (pd : Array (Nat × Nat × Nat)) (st : SortSt) : Prop where
  perm : (arrOf st).Perm a₀
  kind : kindOf st = κ
  failed : failedOf st = none
  pend : pendingOf st = pd
theorem SB.size {st : SortSt} (h : SB κ a₀ pd st) : (arrOf st).size = a₀.size := h.perm.size_eq
theorem SB.setArr {st : SortSt} (h : SB κ a₀ pd st) {xs : Array Keyed} (hp : xs.Perm (arrOf st)) : SB κ a₀ pd (setArr st xs) := ⟨hp.trans h.perm, h.kind, h.failed, h.pend⟩
theorem SB.mem {st : SortSt} (h : SB κ a₀ pd st) {p : Keyed} (hp : p ∈ (arrOf st).toList) : p ∈ a₀.toList := (Array.perm_iff_toList_perm.mp h.perm).mem_iff.mp hp
theorem wpS_ltAtR {st : SortSt} {i j : Nat} {Q : Option Bool → SortSt → Prop} (C : Cmp prog w A s κ a₀ rk) (hB : SB κ a₀ pd st) (hi : i < a₀.size) (hj : j < a₀.size) (h : Q (some (decide (R rk (arrOf st) i < R rk (arrOf st) j))) st) :
    wpS (model prog w) A E s (ltAt' i j) Q st := by
  rw [ltAt'_eq]
  refine wpS_bind (wpS_get ?_)
  have hi' : i < (arrOf st).size := by rw [hB.size]; exact hi
  have hj' : j < (arrOf st).size := by rw [hB.size]; exact hj
  rw [R_get hi', R_get hj'] at h
  exact wpS_bind (wpS_elem (getElem?_pos (arrOf st) i hi') (wpS_bind (wpS_elem (getElem?_pos (arrOf st) j hj') (wpS_lt C hB.kind (hB.mem (by simp)) (hB.mem (by simp)) h))))
/-- what stands ahead of lo is as it was -/
def Kb (lo : Nat) (st st' : SortSt) : Prop := ∀ i, i < lo → (arrOf st')[i]? = (arrOf st)[i]?
theorem Kb.refl {lo : Nat} {st : SortSt} : Kb lo st st := fun _ _ => rfl
theorem Kb.trans {lo : Nat} {a b c : SortSt} (h : Kb lo a b) (g : Kb lo b c) : Kb lo a c := fun i hi => (g i hi).trans (h i hi)
theorem R_mirror {xs : Array Keyed} {i j : Nat} (hj : j ≤ xs.size) (k : Nat) : R rk (mirror xs i j ((j - i) / 2)) k = if i ≤ k ∧ k < j then R rk xs (i + j - 1 - k) else R rk xs k := by
  have e := getElem?_mirror_all (i := i) hj k
  by_cases h1 : i ≤ k ∧ k < j
  · rw [if_pos h1] at e ⊢; exact R_congr e
  · rw [if_neg h1] at e ⊢; exact R_congr e
theorem kb_mirror {st : SortSt} {lo i j : Nat} (hj : j ≤ (arrOf st).size) (hi : lo ≤ i) : Kb lo st (setArr st (mirror (arrOf st) i j ((j - i) / 2))) := fun k hk => by
  show (mirror (arrOf st) i j ((j - i) / 2))[k]? = _
  rw [getElem?_mirror_all hj, if_neg (by (clear hj; lia))]
theorem R_mirror_eq {xs : Array Keyed} {i j : Nat} (hj : j ≤ xs.size) (heq : ∀ k, i ≤ k → k < j → R rk xs k = R rk xs (j - 1)) (k : Nat) : R rk (mirror xs i j ((j - i) / 2)) k = R rk xs k := by
  rw [R_mirror hj]
  split
  · rw [heq _ (by (clear hj; lia)) (by (clear hj; lia)), heq k (by (clear hj; lia)) (by (clear hj; lia))]
  · rfl
theorem R_bubble {xs : Array Keyed} {src d : Nat} (hs : src < xs.size) (hd : d ≤ src) (k : Nat) :
    R rk (bubble xs src d) k = if k = src - d then R rk xs src else if src - d < k ∧ k ≤ src then R rk xs (k - 1) else R rk xs k := by
  have e := getElem?_bubble hs d hd k
  by_cases h1 : k = src - d
  · rw [if_pos h1] at e ⊢; exact R_congr e
  · rw [if_neg h1] at e ⊢
    by_cases h2 : src - d < k ∧ k ≤ src
    · rw [if_pos h2] at e ⊢; exact R_congr e
    · rw [if_neg h2] at e ⊢; exact R_congr e
def Dwn (rk : Value → Nat) (xs : Array Keyed) (lo hi : Nat) : Prop := ∀ i j, lo ≤ i → i ≤ j → j < hi → R rk xs j ≤ R rk xs i
theorem wpS_countRun {st : SortSt} {lo nrem : Nat} {Q : Option Nat → SortSt → Prop} (C : Cmp prog w A s κ a₀ rk) (hn : lo + nrem ≤ a₀.size) (h1 : 1 ≤ nrem) (hB : SB κ a₀ pd st)
    (h : ∀ m st', SB κ a₀ pd st' → Kb lo st st' → 1 ≤ m → m ≤ nrem → Seg rk (arrOf st') lo (lo + m) → Q (some m) st') : wpS (model prog w) A E s (countRun' lo nrem) Q st := by
  rw [countRun'_eq]
  refine wpS_bind (wpS_mono (wpS_forRange (I := fun x c st' => st' = st ∧ c = (none, x) ∧ Seg rk (arrOf st) lo (lo + x))
    (Q := fun c st' => st' = st ∧ ∃ n, c = (none, n) ∧ 1 ≤ n ∧ n ≤ nrem ∧ Seg rk (arrOf st) lo (lo + n) ∧ (n = nrem ∨ R rk (arrOf st) (lo + n) < R rk (arrOf st) (lo + n - 1))) ?step ?fin ⟨rfl, rfl, fun i j a b c => by rw [show i = j by (clear h1 hn; lia)]; exact Nat.le_refl _⟩) ?post)
  case fin =>
    rintro c st' ⟨rfl, rfl, hs⟩
    rw [show max 1 nrem = nrem by (clear hn; lia)] at hs ⊢
    exact ⟨rfl, nrem, rfl, h1, Nat.le_refl _, hs, .inl rfl⟩
  case step =>
    rintro x c st' x1 xn ⟨rfl, rfl, hs⟩
    dsimp only
    refine wpS_bind (wpS_ltAtR C hB (by (clear x1 h1; lia)) (by (clear x1 h1; lia)) ?_)
    dsimp only
    refine wpS_ite (fun lt => ?_) (fun lt => ?_)
    · exact wpS_pure ⟨rfl, x, rfl, x1, by (clear lt x1 h1 hn; lia), hs, .inr (of_decide_eq_true lt)⟩
    · have lt : R rk (arrOf st') (lo + x - 1) ≤ R rk (arrOf st') (lo + x) := Nat.le_of_not_lt fun z => lt (decide_eq_true z)
      refine wpS_pure ⟨rfl, rfl, fun i j a b c => ?_⟩
      by_cases hj : j < lo + x
      · exact hs i j a b hj
      · have : j = lo + x := by (clear b a lt xn x1 h1 hn; lia)
        subst this
        by_cases hi : i = lo + x
        · rw [hi]; exact Nat.le_refl _
        · exact Nat.le_trans (hs i (lo + x - 1) a (by (clear hj c a lt xn x1 h1 hn; lia)) (by (clear hi hj c b a lt xn h1 hn; lia))) lt
  case post =>
    rintro c st' ⟨rfl, n, rfl, n1, nn, hs, hor⟩
    dsimp only
    have hsz : (arrOf st').size = a₀.size := hB.size
    refine wpS_ite (fun e => ?_) (fun e => ?_)
    · exact wpS_pure (h n _ hB Kb.refl n1 nn hs)
    have e : ¬ n = nrem := fun z => e (beq_iff_eq.mpr z)
    have lt := hor.resolve_left e
    have n2 : n + 1 ≤ nrem := by (clear lt hsz hor n1 h1 hn; lia)
    apply wpS_ite
    case' h1 =>
      intro gt
      refine wpS_bind (wpS_ltAtR C hB (by (clear gt n2 lt e hsz hor nn n1; lia)) (by (clear gt n2 lt e hsz hor n1; lia)) ?_)
      dsimp only
      refine wpS_ite (fun rose => ?_) (fun rose => ?_)
      · exact wpS_pure (h n _ hB Kb.refl n1 nn hs)
      have rose : R rk (arrOf st') (lo + n - 1) ≤ R rk (arrOf st') lo := Nat.le_of_not_lt fun z => rose (decide_eq_true z)
      have all : ∀ k, lo ≤ k → k < lo + n → R rk (arrOf st') k = R rk (arrOf st') (lo + n - 1) := fun k k1 k2 => by
        have a1 := hs lo k (Nat.le_refl _) k1 k2
        have a2 := hs k (lo + n - 1) k1 (by (clear a1 k1 rose gt n2 lt e hsz hor nn n1 h1 hn; lia)) (by (clear a1 k2 k1 rose gt n2 lt e hsz hor nn h1 hn; lia))
        (clear k2 k1 gt n2 lt e hsz hor nn n1 h1 hn; lia)
      rw [reverseSlice'_eq]
      refine wpS_bind (wpS_modify ?_)
      have hB1 : SB κ a₀ pd (setArr st' (mirror (arrOf st') lo (lo + n) ((lo + n - lo) / 2))) := hB.setArr (mirror_perm _ _ _ _)
      have k1 : Kb lo st' (setArr st' (mirror (arrOf st') lo (lo + n) ((lo + n - lo) / 2))) := kb_mirror (by (clear rose gt n2 lt e hor n1 h1; lia)) (Nat.le_refl _)
      have dw : Dwn rk (arrOf (setArr st' (mirror (arrOf st') lo (lo + n) ((lo + n - lo) / 2)))) lo (lo + n + 1) := fun i j a b c => by
        show R rk (mirror _ _ _ _) j ≤ R rk (mirror _ _ _ _) i
        rw [R_mirror_eq (by (clear c b a rose gt n2 lt e hor n1 h1; lia)) all, R_mirror_eq (by (clear c b a rose gt n2 lt e hor n1 h1; lia)) all]
        by_cases hj : j < lo + n
        · rw [all i a (by (clear c a rose gt n2 lt e hsz hor nn n1 h1 hn; lia)), all j (by (clear hj c rose gt n2 lt e hsz hor nn n1 h1 hn; lia)) hj]; exact Nat.le_refl _
        · have : j = lo + n := by (clear b a rose gt n2 lt e hsz hor nn n1 h1 hn; lia)
          subst this
          by_cases hi : i = lo + n
          · rw [hi]; exact Nat.le_refl _
          · rw [all i a (by (clear hj c a rose gt n2 lt e hsz hor nn n1 h1 hn; lia))]; (clear hi hj c b a rose gt n2 lt hsz nn n1 h1 hn; lia)
      generalize setArr st' (mirror (arrOf st') lo (lo + n) ((lo + n - lo) / 2)) = st1 at hB1 k1 dw ⊢
    case' h2 =>
      intro gt
      have hB1 := hB
      have k1 : Kb lo st' st' := Kb.refl
      have dw : Dwn rk (arrOf st') lo (lo + n + 1) := fun i j a b c => by
        have e1 : n = 1 := by (clear c b a n2 lt e hsz hor nn h1 hn; lia)
        subst e1
        by_cases hi : i = j
        · rw [hi]; exact Nat.le_refl _
        · have : i = lo + 1 - 1 := by (clear gt n2 lt e hor nn n1 hsz h1 hn; lia)
          have : j = lo + 1 := by (clear this gt n2 lt e hor nn n1 hsz h1 hn; lia)
          subst_vars
          (clear hi b c a gt n2 lt nn n1 hsz h1 hn; lia)
      revert hB1 k1 dw
      generalize hst : st' = st1
      intro hB1 k1 dw
    all_goals
      refine wpS_bind (wpS_lift (wpAny_rule ⟨rfl, ?_⟩))
      refine wpS_bind (wpS_mono (wpS_forRange (I := fun x c st2 => ∃ neq, c = (none, x, neq) ∧ SB κ a₀ pd st2 ∧ Kb lo st1 st2 ∧ Dwn rk (arrOf st2) lo (lo + x) ∧ neq + 1 ≤ x ∧ (∀ i, lo + x - (neq + 1) ≤ i → i < lo + x → R rk (arrOf st2) i = R rk (arrOf st2) (lo + x - 1)))
        (Q := fun c st2 => ∃ x neq, c = (none, x, neq) ∧ n + 1 ≤ x ∧ x ≤ nrem ∧ SB κ a₀ pd st2 ∧ Kb lo st1 st2 ∧ Dwn rk (arrOf st2) lo (lo + x) ∧ neq + 1 ≤ x ∧ (∀ i, lo + x - (neq + 1) ≤ i → i < lo + x → R rk (arrOf st2) i = R rk (arrOf st2) (lo + x - 1))) ?_ ?_ ⟨0, rfl, hB1, Kb.refl, dw, by (clear gt n2 lt e hsz hor nn n1 h1 hn; lia), fun i a b => by congr 1; (clear gt n2 lt e hsz hor nn n1 h1 hn; lia)⟩) ?_)
      · rintro x c st2 x1 xn ⟨neq, rfl, hB2, k2, d2, q2, e2⟩
        dsimp only
        have sz2 : (arrOf st2).size = a₀.size := hB2.size
        refine wpS_bind (wpS_ltAtR C hB2 (by (clear sz2 q2 x1 gt n2 lt e hsz hor nn n1 h1; lia)) (by (clear sz2 q2 x1 gt n2 lt e hsz hor nn n1 h1; lia)) ?_)
        dsimp only
        refine wpS_ite (fun lt => ?_) (fun lt => ?_)
        · have lt : R rk (arrOf st2) (lo + x) < R rk (arrOf st2) (lo + x - 1) := of_decide_eq_true lt
          have step1 : ∀ xs : Array Keyed, (∀ k, R rk xs k = R rk (arrOf st2) k) → Dwn rk xs lo (lo + (x + 1)) := by
            intro xs hk i j a b c
            rw [hk, hk]
            by_cases hj : j < lo + x
            · exact d2 i j a b hj
            · have : j = lo + x := by (clear b a lt sz2 q2 xn x1 gt n2 e hsz hor nn n1 h1 hn; lia)
              subst this
              by_cases hi : i = lo + x
              · rw [hi]; exact Nat.le_refl _
              · exact Nat.le_trans (Nat.le_of_lt lt) (d2 i (lo + x - 1) a (by (clear hj c a lt sz2 q2 xn x1 gt n2 e hsz hor nn n1 h1 hn; lia)) (by (clear hi hj c b a lt sz2 q2 xn gt n2 e hsz hor nn n1 h1 hn; lia)))
          refine wpS_ite (fun _ => ?_) (fun _ => ?_)
          · rw [reverseSlice'_eq]
            refine wpS_bind (wpS_modify (wpS_pure ⟨0, rfl, hB2.setArr (mirror_perm _ _ _ _), k2.trans (kb_mirror (by (clear lt q2 x1 gt n2 e hsz hor nn n1 h1; lia)) (by (clear lt sz2 xn x1 gt n2 e hsz hor nn n1 h1 hn; lia))), step1 _ (R_mirror_eq (by (clear lt q2 x1 gt n2 e hsz hor nn n1 h1; lia)) e2), by (clear lt sz2 q2 xn x1 gt n2 e hsz hor nn n1 h1 hn; lia), fun i a b => by congr 1; (clear lt sz2 q2 xn x1 gt n2 e hsz hor nn n1 h1 hn; lia)⟩))
          · exact wpS_pure ⟨0, rfl, hB2, k2, step1 _ (fun _ => rfl), by (clear lt sz2 q2 xn x1 gt n2 e hsz hor nn n1 h1 hn; lia), fun i a b => by congr 1; (clear lt sz2 q2 xn x1 gt n2 e hsz hor nn n1 h1 hn; lia)⟩
        · have ge : R rk (arrOf st2) (lo + x - 1) ≤ R rk (arrOf st2) (lo + x) := Nat.le_of_not_lt fun z => lt (decide_eq_true z)
          refine wpS_bind (wpS_ltAtR C hB2 (by (clear ge lt sz2 q2 x1 gt n2 e hsz hor nn n1 h1; lia)) (by (clear ge lt sz2 q2 x1 gt n2 e hsz hor nn n1 h1; lia)) ?_)
          dsimp only
          refine wpS_ite (fun lg => ?_) (fun lg => ?_)
          · exact wpS_pure ⟨x, neq, rfl, x1, by (clear lg ge lt sz2 q2 x1 gt n2 e hsz hor nn n1 h1 hn; lia), hB2, k2, d2, q2, e2⟩
          · have le : R rk (arrOf st2) (lo + x) ≤ R rk (arrOf st2) (lo + x - 1) := Nat.le_of_not_lt fun z => lg (decide_eq_true z)
            have eqx : R rk (arrOf st2) (lo + x) = R rk (arrOf st2) (lo + x - 1) := by (clear lg lt sz2 q2 xn x1 gt n2 e hsz hor nn n1 h1 hn; lia)
            refine wpS_pure ⟨neq + 1, rfl, hB2, k2, fun i j a b c => ?_, by (clear eqx le lg ge lt sz2 xn x1 gt n2 e hsz hor nn n1 h1 hn; lia), fun i a b => ?_⟩
            · by_cases hj : j < lo + x
              · exact d2 i j a b hj
              · have : j = lo + x := by (clear b a eqx le lg ge lt sz2 q2 xn x1 gt n2 e hsz hor nn n1 h1 hn; lia)
                subst this
                by_cases hi : i = lo + x
                · rw [hi]; exact Nat.le_refl _
                · rw [eqx]; exact d2 i (lo + x - 1) a (by (clear hj c a eqx le lg ge lt sz2 q2 xn x1 gt n2 e hsz hor nn n1 h1 hn; lia)) (by (clear hi hj c b a eqx le lg ge lt sz2 q2 xn gt n2 e hsz hor nn n1 h1 hn; lia))
            · rw [show lo + (x + 1) - 1 = lo + x by (clear b a eqx le lg ge lt sz2 q2 xn x1 gt n2 e hsz hor nn n1 h1 hn; lia)]
              by_cases hi : i = lo + x
              · rw [hi]
              · rw [eqx]; exact e2 i (by (clear hi b eqx le lg ge lt sz2 q2 xn x1 gt n2 e hsz hor nn n1 h1 hn; lia)) (by (clear a eqx le lg ge lt sz2 q2 xn x1 gt n2 e hsz hor nn n1 h1 hn; lia))
      · rintro c st2 ⟨neq, rfl, hB2, k2, d2, q2, e2⟩
        rw [show max (n + 1) nrem = nrem by (clear q2 gt n2 lt hsz hor n1 h1 hn; lia)] at d2 q2 e2 ⊢
        exact ⟨nrem, neq, rfl, n2, Nat.le_refl _, hB2, k2, d2, q2, e2⟩
      · rintro c st2 ⟨x, neq, rfl, x1, xn, hB2, k2, d2, q2, e2⟩
        dsimp only
        have sz2 : (arrOf st2).size = a₀.size := hB2.size
        apply wpS_ite
        case' h1 =>
          intro _
          rw [reverseSlice'_eq]
          refine wpS_bind (wpS_modify ?_)
          have hB3 : SB κ a₀ pd (setArr st2 (mirror (arrOf st2) (lo + x - (neq + 1)) (lo + x) ((lo + x - (lo + x - (neq + 1))) / 2))) := hB2.setArr (mirror_perm _ _ _ _)
          have k3 := k2.trans (kb_mirror (st := st2) (lo := lo) (i := lo + x - (neq + 1)) (j := lo + x) (by (clear q2 x1 gt n2 lt e hsz hor nn n1 h1; lia)) (by (clear sz2 xn x1 gt n2 lt e hsz hor nn n1 h1 hn; lia)))
          have d3 : Dwn rk (arrOf (setArr st2 (mirror (arrOf st2) (lo + x - (neq + 1)) (lo + x) ((lo + x - (lo + x - (neq + 1))) / 2)))) lo (lo + x) := fun i j a b c => by
            show R rk (mirror _ _ _ _) j ≤ R rk (mirror _ _ _ _) i
            rw [R_mirror_eq (by (clear c b a q2 x1 gt n2 lt e hsz hor nn n1 h1; lia)) e2, R_mirror_eq (by (clear c b a q2 x1 gt n2 lt e hsz hor nn n1 h1; lia)) e2]
            exact d2 i j a b c
          generalize setArr st2 (mirror (arrOf st2) (lo + x - (neq + 1)) (lo + x) ((lo + x - (lo + x - (neq + 1))) / 2)) = st3 at hB3 k3 d3 ⊢
        case' h2 =>
          intro _
          have hB3 := hB2
          have k3 := k2
          have d3 := d2
          revert hB3 k3 d3
          generalize st2 = st3
          intro hB3 k3 d3
        all_goals
          have sz3 : (arrOf st3).size = a₀.size := hB3.size
          rw [reverseSlice'_eq]
          refine wpS_bind (wpS_modify ?_)
          have hB4 : SB κ a₀ pd (setArr st3 (mirror (arrOf st3) lo (lo + x) ((lo + x - lo) / 2))) := hB3.setArr (mirror_perm _ _ _ _)
          have k4 := k3.trans (kb_mirror (st := st3) (lo := lo) (i := lo) (j := lo + x) (by (clear sz2 q2 x1 gt n2 lt e hsz hor nn n1 h1; lia)) (by (clear sz3 sz2 q2 xn x1 gt n2 lt e hsz hor nn n1 h1 hn; lia)))
          have s4 : Seg rk (arrOf (setArr st3 (mirror (arrOf st3) lo (lo + x) ((lo + x - lo) / 2)))) lo (lo + x) := fun i j a b c => by
            show R rk (mirror _ _ _ _) i ≤ R rk (mirror _ _ _ _) j
            rw [R_mirror (by (clear c b a sz2 q2 x1 gt n2 lt e hsz hor nn n1 h1; lia)), R_mirror (by (clear c b a sz2 q2 x1 gt n2 lt e hsz hor nn n1 h1; lia)), if_pos (by (clear sz3 sz2 q2 xn x1 gt n2 lt e hsz hor nn n1 h1 hn; lia)), if_pos (by (clear sz3 sz2 q2 xn x1 gt n2 lt e hsz hor nn n1 h1 hn; lia))]
            exact d3 _ _ (by (clear b a sz3 sz2 q2 xn x1 gt n2 lt e hsz hor nn n1 h1 hn; lia)) (by (clear c a sz3 sz2 q2 xn x1 gt n2 lt e hsz hor nn n1 h1 hn; lia)) (by (clear c b sz3 sz2 q2 xn gt n2 lt e hsz hor nn n1 h1 hn; lia))
          generalize setArr st3 (mirror (arrOf st3) lo (lo + x) ((lo + x - lo) / 2)) = st4 at hB4 k4 s4 ⊢
          refine wpS_bind (wpS_mono (wpS_forRange (I := fun y c st5 => st5 = st4 ∧ c = (none, y) ∧ Seg rk (arrOf st4) lo (lo + y))
            (Q := fun c st5 => st5 = st4 ∧ ∃ y, c = (none, y) ∧ x ≤ y ∧ y ≤ nrem ∧ Seg rk (arrOf st4) lo (lo + y)) ?_ ?_ ⟨rfl, rfl, s4⟩) ?_)
          · rintro y c st5 y1 yn ⟨rfl, rfl, hs5⟩
            dsimp only
            refine wpS_bind (wpS_ltAtR C hB4 (by (clear y1 sz3 sz2 q2 xn x1 gt n2 lt e hsz hor nn n1 h1; lia)) (by (clear y1 sz3 sz2 q2 xn x1 gt n2 lt e hsz hor nn n1 h1; lia)) ?_)
            dsimp only
            refine wpS_ite (fun lt => ?_) (fun lt => ?_)
            · exact wpS_pure ⟨rfl, y, rfl, y1, by (clear lt y1 sz3 sz2 q2 xn x1 gt n2 e hsz hor nn n1 h1 hn; lia), hs5⟩
            · have lt : R rk (arrOf st5) (lo + y - 1) ≤ R rk (arrOf st5) (lo + y) := Nat.le_of_not_lt fun z => lt (decide_eq_true z)
              refine wpS_pure ⟨rfl, rfl, fun i j a b c => ?_⟩
              by_cases hj : j < lo + y
              · exact hs5 i j a b hj
              · have : j = lo + y := by (clear b a lt yn y1 sz3 sz2 q2 xn x1 gt n2 e hsz hor nn n1 h1 hn; lia)
                subst this
                by_cases hi : i = lo + y
                · rw [hi]; exact Nat.le_refl _
                · exact Nat.le_trans (hs5 i (lo + y - 1) a (by (clear hj c a lt yn y1 sz3 sz2 q2 xn x1 gt n2 e hsz hor nn n1 h1 hn; lia)) (by (clear hi hj c b a lt yn sz3 sz2 q2 xn gt n2 e hsz hor nn n1 h1 hn; lia))) lt
          · rintro c st5 ⟨rfl, rfl, hs5⟩
            rw [show max x nrem = nrem by (clear sz3 sz2 q2 x1 gt n2 lt e hsz hor nn n1 h1 hn; lia)] at hs5 ⊢
            exact ⟨rfl, nrem, rfl, xn, Nat.le_refl _, hs5⟩
          · rintro c st5 ⟨rfl, y, rfl, y1, yn, hs5⟩
            exact wpS_pure (h y _ hB4 (by first | exact k1.trans k4 | (subst hst; exact k4)) (by (clear yn sz3 sz2 q2 xn gt n2 lt e hsz hor nn n1 h1 hn; lia)) yn hs5)
theorem wpS_binarySort {st : SortSt} {lo n ok : Nat} {Q : Bool → SortSt → Prop} (C : Cmp prog w A s κ a₀ rk) (hn : lo + n ≤ a₀.size) (hok : ok ≤ n) (hB : SB κ a₀ pd st) (hs : Seg rk (arrOf st) lo (lo + ok))
    (h : ∀ st', SB κ a₀ pd st' → Kb lo st st' → Seg rk (arrOf st') lo (lo + n) → Q true st') : wpS (model prog w) A E s (binarySort' lo n ok) Q st := by
  rw [binarySort'_eq]
  refine wpS_bind (wpS_mono (wpS_forRange (I := fun k c st' => c = (none, ()) ∧ SB κ a₀ pd st' ∧ Kb lo st st' ∧ Seg rk (arrOf st') lo (lo + min k n))
    (Q := fun c st' => c = (none, ()) ∧ SB κ a₀ pd st' ∧ Kb lo st st' ∧ Seg rk (arrOf st') lo (lo + n)) ?step ?fin ?init) ?post)
  case post =>
    rintro c st' ⟨rfl, hB', k', hs'⟩
    exact wpS_pure (h st' hB' k' hs')
  case init =>
    refine ⟨rfl, hB, Kb.refl, fun i j a b c => ?_⟩
    by_cases h1 : ok = 0
    · rw [show i = j by (clear hok hn; lia)]; exact Nat.le_refl _
    · exact hs i j a b (by (clear b a hok hn; lia))
  case fin =>
    rintro c st' ⟨hc, hB', k', hs'⟩
    refine ⟨hc, hB', k', ?_⟩
    rwa [show min (max (max ok 1) n) n = n by (clear hc hok hn; lia)] at hs'
  case step =>
    rintro k c st' hak hkn ⟨rfl, hB', k', hs'⟩
    rw [show min k n = k by (clear hak hok hn; lia)] at hs'
    have sz : (arrOf st').size = a₀.size := hB'.size
    refine wpS_bind (wpS_mono (wpS_forRange (I := fun x c st'' => st'' = st' ∧ ∃ l r, c = (none, l, r) ∧ l ≤ r ∧ r ≤ k ∧ r - l ≤ k - x ∧
        (∀ i, i < l → R rk (arrOf st') (lo + i) ≤ R rk (arrOf st') (lo + k)) ∧ (∀ i, r ≤ i → i < k → R rk (arrOf st') (lo + k) < R rk (arrOf st') (lo + i)))
      (Q := fun c st'' => st'' = st' ∧ ∃ l r, c = (none, l, r) ∧ l ≤ k ∧
        (∀ i, i < l → R rk (arrOf st') (lo + i) ≤ R rk (arrOf st') (lo + k)) ∧ (∀ i, l ≤ i → i < k → R rk (arrOf st') (lo + k) < R rk (arrOf st') (lo + i))) ?istep ?ifin ?iinit) ?ipost)
    case iinit => exact ⟨rfl, 0, k, rfl, by (clear sz hkn hak hok hn; lia), by (clear sz hkn hak hok hn; lia), by (clear sz hkn hak hok hn; lia), fun i hi => by (clear sz hkn hak hok hn; lia), fun i h1 h2 => by (clear sz hkn hak hok hn; lia)⟩
    case ifin =>
      rintro c st'' ⟨rfl, l, r, rfl, hlr, hrk, hm, hlo, hhi⟩
      have : l = r := by (clear hrk sz hkn hak hok hn; lia)
      subst this
      exact ⟨rfl, l, l, rfl, hrk, hlo, hhi⟩
    case istep =>
      rintro x c st'' _ hxk ⟨rfl, l, r, rfl, hlr, hrk, hm, hlo, hhi⟩
      dsimp only
      refine wpS_ite (fun hge => ?_) (fun hge => ?_)
      · have : l = r := by (clear hm hrk sz hxk hkn hak hok hn; lia)
        subst this
        exact wpS_pure ⟨rfl, l, l, rfl, hrk, hlo, hhi⟩
      · refine wpS_bind (wpS_ltAtR C hB' (by (clear hge hm hrk hlr sz hxk hak hok; lia)) (by (clear hge hm sz hxk hak hok; lia)) ?_)
        dsimp only
        refine wpS_ite (fun lt => ?_) (fun lt => ?_)
        · have lt := of_decide_eq_true lt
          refine wpS_pure ⟨rfl, l, (l + r) / 2, rfl, by (clear lt hge hm hrk sz hxk hkn hak hok hn; lia), by (clear lt hge hm sz hxk hkn hak hok hn; lia), by (clear lt hge hrk hlr sz hxk hkn hak hok hn; lia), hlo, fun i h1 h2 => ?_⟩
          exact Nat.lt_of_lt_of_le lt (hs' _ _ (by (clear h2 h1 lt hge hm hrk hlr sz hxk hkn hak hok hn; lia)) (by (clear h2 lt hge hm hrk hlr sz hxk hkn hak hok hn; lia)) (by (clear h1 lt hge hm hrk hlr sz hxk hkn hak hok hn; lia)))
        · have lt : R rk (arrOf st'') (lo + (l + r) / 2) ≤ R rk (arrOf st'') (lo + k) := Nat.le_of_not_lt fun z => lt (decide_eq_true z)
          refine wpS_pure ⟨rfl, (l + r) / 2 + 1, r, rfl, by (clear lt hm hrk hlr sz hxk hkn hak hok hn; lia), by (clear lt hge hm hlr sz hxk hkn hak hok hn; lia), by (clear lt hge hrk hlr sz hxk hkn hak hok hn; lia), fun i h1 => ?_, hhi⟩
          exact Nat.le_trans (hs' (lo + i) (lo + (l + r) / 2) (by (clear h1 lt hge hm hrk hlr sz hxk hkn hak hok hn; lia)) (by (clear lt hge hm hrk hlr sz hxk hkn hak hok hn; lia)) (by (clear h1 lt hm hlr sz hxk hkn hak hok hn; lia))) lt
    case ipost =>
      rintro c st'' ⟨rfl, l, r, rfl, hlk, hlo, hhi⟩
      show wpS _ _ _ _ (do moveDown' (lo + k) (lo + l); pure (ForInStep.yield (none, ()))) _ _
      rw [moveDown'_eq]
      refine wpS_bind (wpS_modify (wpS_pure ⟨rfl, hB'.setArr (bubble_perm _ _ _), k'.trans ?_, ?_⟩))
      · intro i hi
        show (bubble (arrOf st'') (lo + k) (lo + k - (lo + l)))[i]? = _
        rw [getElem?_bubble (by (clear hi hlk hak hok; lia)) _ (by (clear hi hlk sz hkn hak hok hn; lia)), if_neg (by (clear hlk sz hkn hak hok hn; lia)), if_neg (by (clear hlk sz hkn hak hok hn; lia))]
      rw [show min (k + 1) n = k + 1 by (clear hlk sz hak hok hn; lia)]
      intro i j a b c
      show R rk (bubble (arrOf st'') (lo + k) (lo + k - (lo + l))) i ≤ R rk (bubble (arrOf st'') (lo + k) (lo + k - (lo + l))) j
      rw [R_bubble (by (clear c b a hlk hak hok; lia)) (by (clear c b a hlk sz hkn hak hok hn; lia)), R_bubble (by (clear c b a hlk hak hok; lia)) (by (clear c b a hlk sz hkn hak hok hn; lia)), show lo + k - (lo + k - (lo + l)) = lo + l by (clear c b a sz hkn hak hok hn; lia)]
      have L1 : ∀ i, lo ≤ i → i < lo + l → R rk (arrOf st'') i ≤ R rk (arrOf st'') (lo + k) := fun i i1 i2 => by
        have := hlo (i - lo) (by (clear c b a hlk sz hkn hak hok hn; lia)); rwa [show lo + (i - lo) = i by (clear this i2 c b a hlk sz hkn hak hok hn; lia)] at this
      have L2 : ∀ i, lo + l ≤ i → i < lo + k → R rk (arrOf st'') (lo + k) < R rk (arrOf st'') i := fun i i1 i2 => by
        have := hhi (i - lo) (by (clear i2 c b a hlk sz hkn hak hok hn; lia)) (by (clear i1 c b a hlk sz hkn hok hn; lia)); rwa [show lo + (i - lo) = i by (clear this i2 c b a hlk sz hkn hak hok hn; lia)] at this
      repeat' split
      all_goals first
        | (exfalso; (clear a hlk sz hkn hak hok hn; lia))
        | exact Nat.le_refl _
        | exact L1 _ (by (clear c b hlk sz hkn hak hok hn; lia)) (by (clear c a hlk sz hkn hak hok hn; lia))
        | exact Nat.le_of_lt (L2 _ (by (clear c b a hlk sz hkn hak hok hn; lia)) (by (clear c b a hlk sz hkn hak hok hn; lia)))
        | exact hs' _ _ (by (clear c b hlk sz hkn hak hok hn; lia)) (by (clear c a hlk sz hkn hak hok hn; lia)) (by (clear b a sz hkn hak hok hn; lia))
end
end Tim
set_option Elab.async false
set_option linter.all false
set_option maxRecDepth 100000
set_option maxHeartbeats 4000000
namespace Tim
open PySem PyProof.Rows
theorem mergeAt'_eq (i : Nat) : mergeAt' i = (do
  let s ← get
  let (some (sa, na, power), some (sb, nb, _)) := ((pendingOf s)[i]?, (pendingOf s)[i + 1]?) | unsupported "internal:list.sort.pending"
  set (SortSt.mk' (kindOf s) (arrOf s) (((pendingOf s).setIfInBounds i (sa, na + nb, power)).eraseIdxIfInBounds (i + 1)) (gallopOf s) (failedOf s))
  let some k ← gallop' false (← elem' (arrOf s) sb) (arrOf s) sa na 0 | return false
  let (sa, na) := (sa + k, na - k)
  if na == 0 then return true
  let some nb ← gallop' true (← elem' (arrOf s) (sa + na - 1)) (arrOf s) sb nb (nb - 1) | return false
  if nb == 0 then return true
  let x := (arrOf s).extract sa sb
  let y := (arrOf s).extract sb (sb + nb)
  let merged ← if na ≤ nb then mergeLo' x y else mergeHi' x y
  modify fun s => setArr s (merged.toList.zipIdx.foldl (fun a (p, j) => a.setIfInBounds (sa + j) p) (arrOf s))
  return (failedOf (← get)).isNone) := rfl
section
variable {prog : Program} {w : World} {A : Around} {E : Value → Shared → Prop} {s : Shared} {κ : SortKind} {a₀ : Array Keyed} {rk : Value → Nat} {pd : Array (Nat × Nat × Nat)}
theorem put_get (b : Nat) (m : List Keyed) : ∀ (n : Nat) (xs : Array Keyed) (j : Nat), b + n + m.length ≤ xs.size → ((m.zipIdx n).foldl (fun a x => a.setIfInBounds (b + x.2) x.1) xs)[j]? = if b + n ≤ j ∧ j < b + n + m.length then m[j - (b + n)]? else xs[j]? := by
  induction m with
  | nil => intro n xs j h; rw [if_neg (by simp)]; rfl
  | cons p m ih =>
    intro n xs j h
    rw [List.length_cons] at h
    rw [List.zipIdx_cons, List.foldl_cons, ih (n + 1) _ j (by rw [Array.size_setIfInBounds]; lia)]
    by_cases e : j = b + n
    · subst e
      rw [if_neg (by (clear h; lia)), if_pos (by rw [List.length_cons]; (clear h; lia)), Nat.sub_self]
      rw [Array.getElem?_setIfInBounds_self_of_lt (by lia)]
      rfl
    · by_cases c : b + (n + 1) ≤ j ∧ j < b + (n + 1) + m.length
      · rw [if_pos c, if_pos (by rw [List.length_cons]; (clear e h; lia)), show j - (b + n) = (j - (b + (n + 1))) + 1 by (clear e h; lia), List.getElem?_cons_succ]
      · rw [if_neg c, if_neg (by rw [List.length_cons]; (clear h; lia)), Array.getElem?_setIfInBounds_ne (Ne.symm e)]
theorem put_perm {b n : Nat} {m : List Keyed} {xs : Array Keyed} (hl : m.length = n) (hb : b + n ≤ xs.size) (hp : m.Perm ((xs.toList.drop b).take n)) : ((m.zipIdx).foldl (fun a x => a.setIfInBounds (b + x.2) x.1) xs).Perm xs := by
  have e : ((m.zipIdx).foldl (fun a x => a.setIfInBounds (b + x.2) x.1) xs).toList = xs.toList.take b ++ (m ++ xs.toList.drop (b + n)) := by
    have hx : xs.toList.length = xs.size := Array.length_toList
    apply List.ext_getElem?
    intro j
    rw [Array.getElem?_toList, put_get b m 0 xs j (by (clear hx; lia))]
    by_cases j1 : j < b
    · rw [if_neg (by (clear hx hb hl; lia)), List.getElem?_append_left (by rw [List.length_take, hx]; (clear hx hl; lia)), List.getElem?_take_of_lt j1, Array.getElem?_toList]
    · rw [List.getElem?_append_right (by rw [List.length_take, hx]; (clear hx hb hl; lia)), List.length_take, hx, Nat.min_eq_left (by (clear j1 hx hl; lia))]
      by_cases j2 : j < b + n
      · rw [if_pos (by (clear hx hb; lia)), List.getElem?_append_left (by (clear hx hb; lia))]; rfl
      · rw [if_neg (by (clear j1 hx hb; lia)), List.getElem?_append_right (by (clear j1 hx hb; lia)), List.getElem?_drop, Array.getElem?_toList]
        congr 1
        (clear j1 hx hb; lia)
  refine Array.perm_iff_toList_perm.mpr ?_
  rw [e]
  have sp : xs.toList = xs.toList.take b ++ ((xs.toList.drop b).take n ++ xs.toList.drop (b + n)) := by
    rw [← drop_split, List.take_append_drop]
  refine List.Perm.trans ?_ (List.Perm.of_eq sp.symm)
  exact List.Perm.append_left _ (List.Perm.append_right _ hp)
theorem R_ext {xs : Array Keyed} {lo hi i : Nat} (h : lo + i < hi) (hh : hi ≤ xs.size) : R rk (xs.extract lo hi) i = R rk xs (lo + i) := by
  apply R_congr
  rw [Array.getElem?_extract]
  rw [if_pos (by lia)]
theorem wpS_set {σ : Type} {M : Model} {A : Around} {E : Value → Shared → Prop} {s : Shared} {x : σ} {Q : PUnit → σ → Prop} {st : σ} (h : Q ⟨⟩ x) : wpS M A E s (set x : StateT σ Sem PUnit) Q st := by
  unfold wpS; rw [StateT.run_set]; exact wpAny_pure ⟨rfl, h⟩
theorem wpS_mergeAt {st : SortSt} {i sa na pw sb nb pw2 : Nat} {Q : Bool → SortSt → Prop} (C : Cmp prog w A s κ a₀ rk) (hB : SB κ a₀ pd st) (h1 : pd[i]? = some (sa, na, pw)) (h2 : pd[i + 1]? = some (sb, nb, pw2)) (hsb : sb = sa + na) (na1 : 1 ≤ na) (nb1 : 1 ≤ nb) (hz : sb + nb ≤ a₀.size)
    (s1 : Seg rk (arrOf st) sa (sa + na)) (s2 : Seg rk (arrOf st) sb (sb + nb))
    (h : ∀ st', SB κ a₀ ((pd.setIfInBounds i (sa, na + nb, pw)).eraseIdxIfInBounds (i + 1)) st' → (∀ j, j < sa ∨ sb + nb ≤ j → (arrOf st')[j]? = (arrOf st)[j]?) → Seg rk (arrOf st') sa (sb + nb) → Q true st') :
    wpS (model prog w) A E s (mergeAt' i) Q st := by
  rw [mergeAt'_eq]
  refine wpS_bind (wpS_get ?_)
  rw [hB.pend, h1, h2]
  dsimp only
  have sz : (arrOf st).size = a₀.size := hB.size
  have harr : ∀ p ∈ (arrOf st).toList, p ∈ a₀.toList := fun p hp => hB.mem hp
  have ina : ∀ i, i < a₀.size → ∃ p, (arrOf st)[i]? = some p ∧ p ∈ a₀.toList ∧ R rk (arrOf st) i = rk p.1 := fun i hi => ⟨(arrOf st)[i]'(by (clear hz nb1 na1 hsb h2 h1; lia)), getElem?_pos (arrOf st) i (by (clear hz nb1 na1 hsb h2 h1; lia)), hB.mem (by simp), R_get (by (clear hz nb1 na1 hsb h2 h1; lia))⟩
  refine wpS_bind (wpS_set ?_)
  have hB1 : SB κ a₀ ((pd.setIfInBounds i (sa, na + nb, pw)).eraseIdxIfInBounds (i + 1)) (SortSt.mk' (kindOf st) (arrOf st) ((pd.setIfInBounds i (sa, na + nb, pw)).eraseIdxIfInBounds (i + 1)) (gallopOf st) (failedOf st)) := ⟨hB.perm, hB.kind, hB.failed, rfl⟩
  have hA1 : arrOf (SortSt.mk' (kindOf st) (arrOf st) ((pd.setIfInBounds i (sa, na + nb, pw)).eraseIdxIfInBounds (i + 1)) (gallopOf st) (failedOf st)) = arrOf st := rfl
  generalize (pd.setIfInBounds i (sa, na + nb, pw)).eraseIdxIfInBounds (i + 1) = pd1 at hB1 hA1 h ⊢
  generalize SortSt.mk' (kindOf st) (arrOf st) pd1 (gallopOf st) (failedOf st) = st1 at hB1 hA1 ⊢
  obtain ⟨p, ep, mp, rp⟩ := ina sb (by (clear hA1 sz na1 hsb h2 h1; lia))
  refine wpS_bind (wpS_elem ep (wpS_bind (wpS_gallop C hB1.kind mp harr (by (clear rp ep hA1 nb1 na1 h2 h1; lia)) (by (clear rp ep hA1 sz hz nb1 hsb h2 h1; lia)) s1 fun k k1 k2 k3 => ?_)))
  dsimp only
  refine wpS_ite (fun e => ?_) (fun e => ?_)
  · have e : na - k = 0 := eq_of_beq e
    refine wpS_pure (h st1 hB1 (fun j _ => by rw [hA1]) fun i j a b c => ?_)
    rw [hA1]
    by_cases hj : j < sb
    · exact s1 i j a b (by (clear c b a e k1 rp ep hA1 sz hz nb1 na1 h2 h1; lia))
    · by_cases hi : i < sb
      · have e1 := By_f (k2 (i - sa) (by (clear hj c b a k1 rp ep hA1 sz hz nb1 h2 h1; lia)))
        rw [show sa + (i - sa) = i by (clear e1 hi hj c b e k1 rp ep hA1 sz hz nb1 na1 hsb h2 h1; lia)] at e1
        have e2 := s2 sb j (Nat.le_refl _) (by (clear e1 hi c b a e k1 rp ep hA1 sz hz nb1 na1 hsb h2 h1; lia)) c
        (clear hi hj c b a e k1 ep hA1 sz hz nb1 na1 hsb h2 h1; lia)
      · exact s2 i j (by (clear hj c b a e k1 rp ep hA1 sz hz nb1 na1 hsb h2 h1; lia)) b c
  have ek : k < na := by have : ¬ na - k = 0 := fun z => e (beq_iff_eq.mpr z); (clear e k1 rp ep hA1 sz hz nb1 na1 hsb h2 h1; lia)
  obtain ⟨q, eq, mq, rq⟩ := ina (sa + k + (na - k) - 1) (by (clear ek e rp ep hA1 sz nb1 h2 h1; lia))
  refine wpS_bind (wpS_elem eq (wpS_bind (wpS_gallop C hB1.kind mq harr (by (clear rq eq ek e k1 rp ep hA1 nb1 na1 hsb h2 h1; lia)) (by (clear rq eq ek e k1 rp ep hA1 sz hz na1 hsb h2 h1; lia)) s2 fun n2 l1 l2 l3 => ?_)))
  dsimp only
  have elast : sa + k + (na - k) - 1 = sb - 1 := by (clear l1 rq eq ek e rp ep hA1 sz hz nb1 na1 h2 h1; lia)
  rw [elast] at rq
  refine wpS_ite (fun e => ?_) (fun e => ?_)
  · have e : n2 = 0 := eq_of_beq e
    refine wpS_pure (h st1 hB1 (fun j _ => by rw [hA1]) fun i j a b c => ?_)
    rw [hA1]
    by_cases hj : j < sb
    · exact s1 i j a b (by (clear c b a e elast l1 rq eq ek k1 rp ep hA1 sz hz nb1 na1 h2 h1; lia))
    · by_cases hi : i < sb
      · have e1 := By_t' (l3 (j - sb) (by (clear hi hj c b a elast l1 rq eq ek k1 rp ep hA1 sz hz nb1 na1 hsb h2 h1; lia)) (by (clear hi hj b a e elast l1 rq eq ek k1 rp ep hA1 sz hz na1 hsb h2 h1; lia)))
        rw [show sb + (j - sb) = j by (clear e1 hi c b a e elast l1 rq eq ek k1 rp ep hA1 sz hz nb1 na1 hsb h2 h1; lia)] at e1
        have e2 := s1 i (sb - 1) a (by (clear e1 hj c b a e elast l1 rq eq ek k1 rp ep hA1 sz hz nb1 na1 hsb h2 h1; lia)) (by (clear e1 hi hj c b a e elast l1 rq eq ek k1 rp ep hA1 sz hz nb1 h2 h1; lia))
        (clear hi hj c b a e elast l1 eq ek k1 rp ep hA1 sz hz nb1 na1 hsb h2 h1; lia)
      · exact s2 i j (by (clear hj c b a e elast l1 rq eq ek k1 rp ep hA1 sz hz nb1 na1 hsb h2 h1; lia)) b c
  have e2 : ¬ n2 = 0 := fun z => e (beq_iff_eq.mpr z)
  have xsz : ((arrOf st).extract (sa + k) sb).size = sb - (sa + k) := by rw [Array.size_extract, Nat.min_eq_left (by (clear e2 e elast l1 rq eq ek k1 rp ep hA1 nb1 na1 hsb h2 h1; lia))]
  have ysz : ((arrOf st).extract sb (sb + n2)).size = n2 := by rw [Array.size_extract, Nat.min_eq_left (by (clear xsz e2 e elast rq eq ek k1 rp ep hA1 nb1 na1 hsb h2 h1; lia))]; (clear xsz e2 e elast l1 rq eq ek k1 rp ep hA1 sz hz nb1 na1 hsb h2 h1; lia)
  have xin : ∀ p ∈ ((arrOf st).extract (sa + k) sb).toList, p ∈ a₀.toList := fun p hp => harr p (by rw [ext_list] at hp; exact List.mem_of_mem_drop (List.mem_of_mem_take hp))
  have yin : ∀ p ∈ ((arrOf st).extract sb (sb + n2)).toList, p ∈ a₀.toList := fun p hp => harr p (by rw [ext_list] at hp; exact List.mem_of_mem_drop (List.mem_of_mem_take hp))
  have sx : Seg rk ((arrOf st).extract (sa + k) sb) 0 ((arrOf st).extract (sa + k) sb).size := fun i j a b c => by
    rw [xsz] at c
    rw [R_ext (by (clear a ysz xsz e2 e elast l1 rq eq ek k1 rp ep hA1 sz hz nb1 na1 hsb h2 h1; lia)) (by (clear c b a ysz xsz e2 e elast l1 rq eq ek k1 rp ep hA1 nb1 na1 hsb h2 h1; lia)), R_ext (by (clear b a ysz xsz e2 e elast l1 rq eq ek k1 rp ep hA1 sz hz nb1 na1 hsb h2 h1; lia)) (by (clear c b a ysz xsz e2 e elast l1 rq eq ek k1 rp ep hA1 nb1 na1 hsb h2 h1; lia))]
    exact s1 _ _ (by (clear c b a ysz xsz e2 e elast l1 rq eq ek k1 rp ep hA1 sz hz nb1 na1 hsb h2 h1; lia)) (by (clear c a ysz xsz e2 e elast l1 rq eq ek k1 rp ep hA1 sz hz nb1 na1 hsb h2 h1; lia)) (by (clear b a ysz xsz e2 e elast l1 rq eq ek k1 rp ep hA1 sz hz nb1 na1 h2 h1; lia))
  have sy : Seg rk ((arrOf st).extract sb (sb + n2)) 0 ((arrOf st).extract sb (sb + n2)).size := fun i j a b c => by
    rw [ysz] at c
    rw [R_ext (by (clear a ysz xsz e2 e elast l1 rq eq ek k1 rp ep hA1 sz hz nb1 na1 hsb h2 h1; lia)) (by (clear c b a ysz xsz e2 e elast rq eq ek k1 rp ep hA1 nb1 na1 hsb h2 h1; lia)), R_ext (by (clear b a ysz xsz e2 e elast l1 rq eq ek k1 rp ep hA1 sz hz nb1 na1 hsb h2 h1; lia)) (by (clear c b a ysz xsz e2 e elast rq eq ek k1 rp ep hA1 nb1 na1 hsb h2 h1; lia))]
    exact s2 _ _ (by (clear c b a ysz xsz e2 e elast l1 rq eq ek k1 rp ep hA1 sz hz nb1 na1 hsb h2 h1; lia)) (by (clear c a ysz xsz e2 e elast l1 rq eq ek k1 rp ep hA1 sz hz nb1 na1 hsb h2 h1; lia)) (by (clear b a ysz xsz e2 e elast rq eq ek k1 rp ep hA1 sz hz nb1 na1 hsb h2 h1; lia))
  have h0 : R rk ((arrOf st).extract sb (sb + n2)) 0 ≤ R rk ((arrOf st).extract (sa + k) sb) 0 := by
    rw [R_ext (by (clear ysz xsz e elast l1 rq eq ek k1 rp ep hA1 sz hz nb1 na1 hsb h2 h1; lia)) (by (clear ysz xsz e2 e elast rq eq ek k1 rp ep hA1 nb1 na1 hsb h2 h1; lia)), R_ext (by (clear ysz xsz e2 e elast l1 rq eq k1 rp ep hA1 sz hz nb1 na1 h2 h1; lia)) (by (clear ysz xsz e2 e elast l1 rq eq ek k1 rp ep hA1 nb1 na1 hsb h2 h1; lia)), Nat.add_zero, Nat.add_zero, rp]
    have := By_f' (k3 k (Nat.le_refl _) ek)
    (clear ysz xsz e2 e elast l1 rq eq ek k1 rp ep hA1 sz hz nb1 na1 hsb h2 h1; lia)
  have hl : R rk ((arrOf st).extract sb (sb + n2)) (((arrOf st).extract sb (sb + n2)).size - 1) ≤ R rk ((arrOf st).extract (sa + k) sb) (((arrOf st).extract (sa + k) sb).size - 1) := by
    rw [xsz, ysz, R_ext (by (clear h0 ysz xsz e elast l1 rq eq ek k1 rp ep hA1 sz hz nb1 na1 hsb h2 h1; lia)) (by (clear h0 ysz xsz e2 e elast rq eq ek k1 rp ep hA1 nb1 na1 hsb h2 h1; lia)), R_ext (by (clear h0 ysz xsz e2 e elast l1 rq eq k1 rp ep hA1 sz hz nb1 na1 h2 h1; lia)) (by (clear h0 ysz xsz e2 e elast l1 rq eq ek k1 rp ep hA1 nb1 na1 hsb h2 h1; lia)), show sa + k + (sb - (sa + k) - 1) = sb - 1 by (clear h0 ysz xsz e2 e elast l1 rq eq k1 rp ep hA1 sz hz nb1 na1 h2 h1; lia), rq]
    have := By_t (l2 (n2 - 1) (by (clear h0 ysz xsz e elast l1 rq eq ek k1 rp ep hA1 sz hz nb1 na1 hsb h2 h1; lia)))
    (clear h0 ysz xsz e2 e elast l1 rq eq ek k1 rp ep hA1 sz hz nb1 na1 hsb h2 h1; lia)
  have fin : ∀ r st2, Kpt st1 st2 → Mg rk ((arrOf st).extract (sa + k) sb) ((arrOf st).extract sb (sb + n2)) r → wpS (model prog w) A E s (do
      modify fun s => setArr s (List.foldl (fun a x => a.setIfInBounds (sa + k + x.snd) x.fst) (arrOf s) r.toList.zipIdx)
      let __do_lift ← get
      pure (failedOf __do_lift).isNone) Q st2 := by
    intro r st2 k2' mg
    have hA2 : arrOf st2 = arrOf st := k2'.a.trans hA1
    refine wpS_bind (wpS_modify ?_)
    refine wpS_bind (wpS_get ?_)
    have hf : failedOf (setArr st2 (List.foldl (fun a x => a.setIfInBounds (sa + k + x.snd) x.fst) (arrOf st2) r.toList.zipIdx)) = none := k2'.f.trans hB1.failed
    rw [hf]
    have rl : r.toList.length = sb - (sa + k) + n2 := by
      rw [mg.perm.length_eq, List.length_append, Array.length_toList, Array.length_toList, xsz, ysz]
    have rp' : r.toList.Perm (((arrOf st).toList.drop (sa + k)).take (sb - (sa + k) + n2)) := by
      refine mg.perm.trans (List.Perm.of_eq ?_)
      rw [ext_list, ext_list, List.take_add, List.drop_drop, show sb + n2 - sb = n2 by (clear rl hf hA2 hl h0 ysz xsz e2 e elast l1 rq eq ek k1 rp ep hA1 sz hz nb1 na1 hsb h2 h1; lia), show sa + k + (sb - (sa + k)) = sb by (clear rl hf hA2 hl h0 ysz xsz e2 e elast l1 rq eq ek rp ep hA1 sz hz nb1 na1 h2 h1; lia)]
    have get : ∀ j, (arrOf (setArr st2 (List.foldl (fun a x => a.setIfInBounds (sa + k + x.snd) x.fst) (arrOf st2) r.toList.zipIdx)))[j]? = if sa + k ≤ j ∧ j < sb + n2 then r.toList[j - (sa + k)]? else (arrOf st)[j]? := fun j => by
      show (List.foldl (fun a x => a.setIfInBounds (sa + k + x.snd) x.fst) (arrOf st2) r.toList.zipIdx)[j]? = _
      rw [hA2, put_get (sa + k) r.toList 0 (arrOf st) j (by (clear hf hA2 hl h0 ysz xsz e2 e elast rq eq ek rp ep hA1 nb1 na1 h2 h1; lia)), rl]
      by_cases c : sa + k ≤ j ∧ j < sb + n2
      · rw [if_pos c, if_pos (by (clear rl hf hA2 hl h0 ysz xsz e2 e elast l1 rq eq ek k1 rp ep hA1 sz hz nb1 na1 hsb h2 h1; lia))]; rfl
      · rw [if_neg c, if_neg (by (clear rl hf hA2 hl h0 ysz xsz e2 e elast l1 rq eq ek rp ep hA1 sz hz nb1 na1 h2 h1; lia))]
    have hB2 : SB κ a₀ pd1 (setArr st2 (List.foldl (fun a x => a.setIfInBounds (sa + k + x.snd) x.fst) (arrOf st2) r.toList.zipIdx)) := by
      refine ⟨?_, k2'.k.trans hB1.kind, hf, k2'.p.trans hB1.pend⟩
      show (List.foldl (fun a x => a.setIfInBounds (sa + k + x.snd) x.fst) (arrOf st2) r.toList.zipIdx).Perm a₀
      rw [hA2]
      exact (put_perm rl (by (clear rl hf hA2 hl h0 ysz xsz e2 e elast rq eq ek rp ep hA1 nb1 na1 h2 h1; lia)) rp').trans hB.perm
    generalize setArr st2 (List.foldl (fun a x => a.setIfInBounds (sa + k + x.snd) x.fst) (arrOf st2) r.toList.zipIdx) = st3 at get hB2 ⊢
    have out : ∀ j, ¬ (sa + k ≤ j ∧ j < sb + n2) → R rk (arrOf st3) j = R rk (arrOf st) j := fun j hj => R_congr (by rw [get j, if_neg hj])
    have mid : ∀ j, sa + k ≤ j → j < sb + n2 → ∃ j0, sa + k ≤ j0 ∧ j0 < sb + n2 ∧ R rk (arrOf st3) j = R rk (arrOf st) j0 := fun j j1 j2 => by
      have e := get j
      rw [if_pos ⟨j1, j2⟩, List.getElem?_eq_getElem (by (clear e j1 hf hA2 hl h0 ysz xsz e2 elast l1 rq eq k1 rp ep hA1 sz hz nb1 na1 h2 h1; lia))] at e
      have hm : r.toList[j - (sa + k)]'(by (clear e j1 hf hA2 hl h0 ysz xsz e2 elast l1 rq eq k1 rp ep hA1 sz hz nb1 na1 h2 h1; lia)) ∈ ((arrOf st).toList.drop (sa + k)).take (sb - (sa + k) + n2) := rp'.mem_iff.mp (List.getElem_mem _)
      obtain ⟨j0, a1, a2, a3⟩ := mem_take_drop (rk := rk) hm
      exact ⟨sa + k + j0, by (clear a3 a2 a1 e j1 hf hA2 hl h0 ysz xsz e2 elast l1 rq eq k1 rp ep hA1 sz hz nb1 na1 h2 h1; lia), by (clear a3 a2 e j1 hf hA2 hl h0 ysz xsz e2 elast l1 rq eq k1 rp ep hA1 sz hz nb1 na1 h2 h1; lia), by rw [R_some e, a3]⟩
    refine wpS_pure (h st3 hB2 (fun j hj => by rw [get j, if_neg (by (clear rl hf hA2 hl h0 ysz xsz e2 e elast rq eq ek k1 rp ep hA1 sz hz nb1 na1 hsb h2 h1; lia))]) fun i j a b c => ?_)
    by_cases i1 : i < sa + k
    · have ei := By_f (k2 (i - sa) (by (clear c b rl hf hA2 hl h0 ysz xsz e2 e elast l1 rq eq ek k1 rp ep hA1 sz hz nb1 na1 hsb h2 h1; lia)))
      rw [show sa + (i - sa) = i by (clear ei i1 c b rl hf hA2 hl h0 ysz xsz e2 e elast l1 rq eq ek k1 rp ep hA1 sz hz nb1 na1 hsb h2 h1; lia), ← rp] at ei
      rw [out i (by (clear ei c b a rl hf hA2 hl h0 ysz xsz e2 e elast l1 rq eq ek k1 rp ep hA1 sz hz nb1 na1 hsb h2 h1; lia))]
      have key : ∀ j0, sa + k ≤ j0 → j0 < sb + nb → R rk (arrOf st) i ≤ R rk (arrOf st) j0 := fun j0 b1 b2 => by
        by_cases c : j0 < sb
        · exact s1 i j0 a (by (clear c b2 ei b a rl hf hA2 hl h0 ysz xsz e2 e elast l1 rq eq ek k1 rp ep hA1 sz hz nb1 na1 hsb h2 h1; lia)) (by (clear b2 b1 ei i1 b a rl hf hA2 hl h0 ysz xsz e2 e elast l1 rq eq ek k1 rp ep hA1 sz hz nb1 na1 h2 h1; lia))
        · have := s2 sb j0 (Nat.le_refl _) (by (clear b2 b1 ei i1 b a rl hf hA2 hl h0 ysz xsz e2 e elast l1 rq eq ek k1 rp ep hA1 sz hz nb1 na1 hsb h2 h1; lia)) b2; (clear c b2 b1 i1 b a rl hf hA2 hl h0 ysz xsz e2 e elast l1 rq eq ek k1 rp ep hA1 sz hz nb1 na1 hsb h2 h1; lia)
      by_cases j1 : sa + k ≤ j ∧ j < sb + n2
      · obtain ⟨j0, b1, b2, b3⟩ := mid j j1.1 j1.2
        rw [b3]
        exact key j0 b1 (by (clear b3 b1 j1 ei i1 c b a rl hf hA2 hl h0 ysz xsz e2 e elast rq eq ek k1 rp ep hA1 sz hz nb1 na1 hsb h2 h1; lia))
      · rw [out j j1]
        by_cases j2 : j < sa + k
        · exact s1 i j a b (by (clear j1 ei i1 c b a rl hf hA2 hl h0 ysz xsz e2 e elast l1 rq eq ek rp ep hA1 sz hz nb1 na1 hsb h2 h1; lia))
        · exact key j (by (clear j1 ei i1 c b a rl hf hA2 hl h0 ysz xsz e2 e elast l1 rq eq ek k1 rp ep hA1 sz hz nb1 na1 hsb h2 h1; lia)) c
    · by_cases i2 : i < sb + n2
      · by_cases j2 : j < sb + n2
        · have e1 := get i
          have e2 := get j
          rw [if_pos ⟨by (clear e2 e1 j2 i2 c b a rl hf hA2 hl h0 ysz xsz e elast l1 rq eq ek k1 rp ep hA1 sz hz nb1 na1 hsb h2 h1; lia), i2⟩, List.getElem?_eq_getElem (by (clear e2 e1 j2 i1 c b a hf hA2 hl h0 ysz xsz e elast l1 rq eq ek k1 rp ep hA1 sz hz nb1 na1 hsb h2 h1; lia))] at e1
          rw [if_pos ⟨by (clear e2 e1 j2 i2 c a rl hf hA2 hl h0 ysz xsz e elast l1 rq eq ek k1 rp ep hA1 sz hz nb1 na1 hsb h2 h1; lia), j2⟩, List.getElem?_eq_getElem (by (clear e2 e1 i2 i1 c b a hf hA2 hl h0 ysz xsz e elast l1 rq eq ek k1 rp ep hA1 sz hz nb1 na1 hsb h2 h1; lia))] at e2
          rw [R_some e1, R_some e2]
          by_cases eij : i = j
          · subst eij; exact Nat.le_refl _
          · exact List.pairwise_iff_getElem.mp mg.srt _ _ _ _ (by (clear e2 e1 j2 i2 c a rl hf hA2 hl h0 ysz xsz e elast l1 rq eq ek k1 rp ep hA1 sz hz nb1 na1 hsb h2 h1; lia))
        · obtain ⟨i0, b1, b2, b3⟩ := mid i (by (clear j2 i2 c b a rl hf hA2 hl h0 ysz xsz e2 e elast l1 rq eq ek k1 rp ep hA1 sz hz nb1 na1 hsb h2 h1; lia)) i2
          rw [b3, out j (by (clear b3 b2 b1 i2 i1 c b a rl hf hA2 hl h0 ysz xsz e2 e elast l1 rq eq ek k1 rp ep hA1 sz hz nb1 na1 hsb h2 h1; lia))]
          by_cases c' : i0 < sb
          · have e1 := s1 i0 (sb - 1) (by (clear c' b3 b2 j2 i2 i1 c b a rl hf hA2 hl h0 ysz xsz e2 e elast l1 rq eq ek k1 rp ep hA1 sz hz nb1 na1 hsb h2 h1; lia)) (by (clear b3 b2 b1 j2 i2 i1 c b a rl hf hA2 hl h0 ysz xsz e2 e elast l1 rq eq ek k1 rp ep hA1 sz hz nb1 na1 hsb h2 h1; lia)) (by (clear c' b3 b2 b1 j2 i2 i1 c b a rl hf hA2 hl h0 ysz xsz e2 e elast l1 rq eq ek k1 rp ep hA1 sz hz nb1 h2 h1; lia))
            have e2 := By_t' (l3 (j - sb) (by (clear e1 c' b3 b2 b1 i2 i1 c b a rl hf hA2 hl h0 ysz xsz e2 e elast l1 rq eq ek k1 rp ep hA1 sz hz nb1 na1 hsb h2 h1; lia)) (by (clear e1 c' b3 b2 b1 j2 i2 i1 b a rl hf hA2 hl h0 ysz xsz e2 e elast l1 rq eq ek k1 rp ep hA1 sz hz na1 hsb h2 h1; lia)))
            rw [show sb + (j - sb) = j by (clear e2 e1 c' b3 b2 b1 i2 i1 c b a rl hf hA2 hl h0 ysz xsz e elast l1 rq eq ek k1 rp ep hA1 sz hz nb1 na1 hsb h2 h1; lia), ← rq] at e2
            (clear c' b3 b2 b1 j2 i2 i1 c b a rl hf hA2 hl h0 ysz xsz e elast l1 rq eq ek k1 rp ep hA1 sz hz nb1 na1 hsb h2 h1; lia)
          · exact s2 i0 j (by (clear b3 b2 b1 j2 i2 i1 c b a rl hf hA2 hl h0 ysz xsz e2 e elast l1 rq eq ek k1 rp ep hA1 sz hz nb1 na1 hsb h2 h1; lia)) (by (clear c' b3 b1 i2 i1 c b a rl hf hA2 hl h0 ysz xsz e2 e elast l1 rq eq ek k1 rp ep hA1 sz hz nb1 na1 hsb h2 h1; lia)) c
      · rw [out i (by (clear i1 c b a rl hf hA2 hl h0 ysz xsz e2 e elast l1 rq eq ek k1 rp ep hA1 sz hz nb1 na1 hsb h2 h1; lia)), out j (by (clear i1 c a rl hf hA2 hl h0 ysz xsz e2 e elast l1 rq eq ek k1 rp ep hA1 sz hz nb1 na1 hsb h2 h1; lia))]
        exact s2 i j (by (clear i1 c b a rl hf hA2 hl h0 ysz xsz e2 e elast l1 rq eq ek k1 rp ep hA1 sz hz nb1 na1 hsb h2 h1; lia)) b c
  refine wpS_ite (fun _ => ?_) (fun _ => ?_)
  · exact wpS_bind (wpS_mergeLo C hB1.kind xin yin (by (clear hl h0 ysz e2 e elast l1 rq eq k1 rp ep hA1 sz hz nb1 na1 h2 h1; lia)) (by (clear hl h0 xsz e2 e elast l1 rq eq k1 rp ep hA1 sz hz nb1 na1 hsb h2 h1; lia)) sx sy h0 hl fin)
  · exact wpS_bind (wpS_mergeHi C hB1.kind xin yin (by (clear hl h0 ysz e2 e elast l1 rq eq ek k1 rp ep hA1 sz hz nb1 na1 h2 h1; lia)) (by (clear hl h0 xsz e elast l1 rq eq ek k1 rp ep hA1 sz hz nb1 na1 hsb h2 h1; lia)) sx sy h0 hl fin)
end
end Tim
set_option Elab.async false
set_option linter.all false
set_option maxRecDepth 100000
set_option maxHeartbeats 4000000
namespace Tim
open PySem PyProof.Rows
section
variable {prog : Program} {w : World} {A : Around} {E : Value → Shared → Prop} {s : Shared} {κ : SortKind} {a₀ : Array Keyed} {rk : Value → Nat} {pd : Array (Nat × Nat × Nat)}
def Runs (rk : Value → Nat) (xs : Array Keyed) : List (Nat × Nat × Nat) → Nat → Nat → Prop
  | [], a, e => a = e
  | (s, n, _) :: r, a, e => s = a ∧ 1 ≤ n ∧ Seg rk xs a (a + n) ∧ Runs rk xs r (a + n) e
theorem Runs.le {xs : Array Keyed} : ∀ {l : List (Nat × Nat × Nat)} {a e : Nat}, Runs rk xs l a e → a + l.length ≤ e
  | [], a, e, h => Nat.le_of_eq h
  | (s, n, _) :: r, a, e, h => by
    have := Runs.le h.2.2.2
    have := h.2.1
    rw [List.length_cons]; lia
theorem Runs.app {xs : Array Keyed} {r : List (Nat × Nat × Nat)} : ∀ {l : List (Nat × Nat × Nat)} {a e : Nat}, Runs rk xs (l ++ r) a e ↔ ∃ m, Runs rk xs l a m ∧ Runs rk xs r m e
  | [], a, e => ⟨fun h => ⟨a, rfl, h⟩, fun ⟨m, h1, h2⟩ => by
      have h1 : a = m := h1
      subst h1; exact h2⟩
  | (s, n, _) :: l, a, e => by
    constructor
    · rintro ⟨h1, h2, h3, h4⟩
      obtain ⟨m, m1, m2⟩ := Runs.app.mp h4
      exact ⟨m, ⟨h1, h2, h3, m1⟩, m2⟩
    · rintro ⟨m, ⟨h1, h2, h3, h4⟩, m2⟩
      exact ⟨h1, h2, h3, Runs.app.mpr ⟨m, h4, m2⟩⟩
theorem Runs.congr {xs ys : Array Keyed} : ∀ {l : List (Nat × Nat × Nat)} {a e : Nat}, Runs rk xs l a e → (∀ j, a ≤ j → j < e → R rk xs j = R rk ys j) → Runs rk ys l a e
  | [], a, e, h, _ => h
  | (s, n, _) :: r, a, e, ⟨h1, h2, h3, h4⟩, g => by
    have le := Runs.le h4
    refine ⟨h1, h2, fun i j x y z => ?_, Runs.congr h4 fun j x y => g j (by (clear y le h2 h1; lia)) y⟩
    rw [← g i x (by (clear x h2 h1; lia)), ← g j (by (clear z le h2 h1; lia)) (by (clear y x h2 h1; lia))]
    exact h3 i j x y z
theorem split2 {α : Type} {l : List α} {i : Nat} (h : i + 1 < l.length) : ∃ pre p q post, l = pre ++ p :: q :: post ∧ pre.length = i := by
  refine ⟨l.take i, l[i], l[i + 1], l.drop (i + 2), ?_, by rw [List.length_take]; lia⟩
  rw [← List.drop_eq_getElem_cons, ← List.drop_eq_getElem_cons, List.take_append_drop]
theorem wpS_mergeRuns {st : SortSt} {i e : Nat} {Q : Bool → SortSt → Prop} (C : Cmp prog w A s κ a₀ rk) (hB : SB κ a₀ pd st) (hr : Runs rk (arrOf st) pd.toList 0 e) (he : e ≤ a₀.size) (hi : i + 1 < pd.size)
    (h : ∀ pd' st', SB κ a₀ pd' st' → Runs rk (arrOf st') pd'.toList 0 e → pd'.size + 1 = pd.size → (∀ j, e ≤ j → (arrOf st')[j]? = (arrOf st)[j]?) → Q true st') : wpS (model prog w) A E s (mergeAt' i) Q st := by
  obtain ⟨pre, ⟨sa, na, pw⟩, ⟨sb, nb, pw2⟩, post, el, pl⟩ := split2 (l := pd.toList) (i := i) (by rw [Array.length_toList]; exact hi)
  rw [el] at hr
  obtain ⟨m, r1, r2⟩ := Runs.app.mp hr
  obtain ⟨e1, n1, s1, e2, n2, s2, r3⟩ := r2
  subst e1
  have le3 := Runs.le r3
  have h1 : pd[i]? = some (sa, na, pw) := by rw [← Array.getElem?_toList, el, List.getElem?_append_right (by (clear le3 e2 n2 n1 el hi he; lia)), pl, Nat.sub_self]; rfl
  have h2 : pd[i + 1]? = some (sb, nb, pw2) := by rw [← Array.getElem?_toList, el, List.getElem?_append_right (by (clear h1 le3 e2 n2 n1 el hi he; lia)), pl, show i + 1 - i = 1 by (clear h1 le3 e2 n2 n1 pl el hi he; lia)]; rfl
  refine wpS_mergeAt C hB h1 h2 e2 n1 n2 (by (clear h2 h1 n2 n1 pl el hi; lia)) s1 (by rw [e2]; exact s2) fun st' hB' out seg => ?_
  have ep : ((pd.setIfInBounds i (sa, na + nb, pw)).eraseIdxIfInBounds (i + 1)).toList = pre ++ (sa, na + nb, pw) :: post := by
    rw [Array.toList_eraseIdxIfInBounds, Array.toList_setIfInBounds, el, List.set_append_right _ _ (by (clear h2 h1 le3 e2 n2 n1 el hi he; lia)), pl, Nat.sub_self]
    rw [List.eraseIdx_append_of_length_le (by (clear h2 h1 le3 e2 n2 n1 el hi he; lia)), pl, show i + 1 - i = 1 by (clear h2 h1 le3 e2 n2 n1 pl el hi he; lia)]
    rfl
  refine h _ st' hB' ?_ ?_ fun j hj => out j (.inr (by (clear ep h2 h1 n2 n1 pl el hi he; lia)))
  · rw [ep]
    refine Runs.app.mpr ⟨sa, r1.congr fun j _ j2 => R_congr (out j (.inl j2)).symm, rfl, by (clear ep h2 h1 le3 e2 n2 pl el hi he; lia), ?_, ?_⟩
    · rw [show sa + (na + nb) = sb + nb by (clear ep h2 h1 le3 n2 n1 pl el hi he; lia)]; exact seg
    · rw [← Nat.add_assoc]
      exact r3.congr fun j j1 j2 => R_congr (out j (.inr (by (clear j2 ep h2 h1 le3 n2 n1 pl el hi he; lia)))).symm
  · rw [← Array.length_toList, ep, ← Array.length_toList, el]
    simp only [List.length_append, List.length_cons]
    (clear ep h2 h1 le3 e2 n2 n1 pl el hi he; lia)
theorem Runs.modify {xs : Array Keyed} {f : Nat × Nat × Nat → Nat × Nat × Nat} (hf : ∀ x, (f x).1 = x.1 ∧ (f x).2.1 = x.2.1) (l : List (Nat × Nat × Nat)) : ∀ (i a e : Nat), Runs rk xs l a e → Runs rk xs (l.modify i f) a e := by
  induction l with
  | nil => intro i a e h; cases i <;> exact h
  | cons t r ih =>
    obtain ⟨s, n, p⟩ := t
    intro i a e h
    obtain ⟨h1, h2, h3, h4⟩ := h
    cases i with
    | zero =>
      rw [List.modify_zero_cons]
      have e2 := hf (s, n, p)
      rcases hfp : f (s, n, p) with ⟨s', n', p'⟩
      rw [hfp] at e2
      obtain ⟨q1, q2⟩ := e2
      have q1 : s' = s := q1
      have q2 : n' = n := q2
      rw [q1, q2]
      exact ⟨h1, h2, h3, h4⟩
    | succ i =>
      rw [List.modify_succ_cons]
      exact ⟨h1, h2, h3, ih i _ _ h4⟩
theorem wpS_sortRuns {st : SortSt} {Q : Unit → SortSt → Prop} (C : Cmp prog w A s κ a₀ rk) (hB : SB κ a₀ #[] st) (h2 : 2 ≤ a₀.size)
    (h : ∀ st', (arrOf st').Perm a₀ → failedOf st' = none → Seg rk (arrOf st') 0 a₀.size → Q () st') : wpS (model prog w) A E s sortRuns' Q st := by
  rw [sortRuns'_eq]
  refine wpS_bind (wpS_get ?_)
  dsimp only
  simp only [hB.size]
  generalize minRun' a₀.size a₀.size 0 = mr
  refine wpS_bind (wpS_mono (wpS_forRange (I := fun x c st' => ∃ lo pd, c = (none, lo) ∧ x ≤ lo ∧ lo ≤ a₀.size ∧ SB κ a₀ pd st' ∧ Runs rk (arrOf st') pd.toList 0 lo)
    (Q := fun c st' => ∃ pd, c = (none, a₀.size) ∧ SB κ a₀ pd st' ∧ Runs rk (arrOf st') pd.toList 0 a₀.size) ?step ?fin ⟨0, #[], rfl, by (clear h2; lia), by (clear h2; lia), hB, rfl⟩) ?post)
  case fin =>
    rintro c st' ⟨lo, pd, rfl, x1, x2, hB', hr⟩
    have : lo = a₀.size := by (clear h2; lia)
    subst this
    exact ⟨pd, rfl, hB', hr⟩
  case step =>
    rintro x c st' _ hx ⟨lo, pd, rfl, x1, x2, hB', hr⟩
    dsimp only
    refine wpS_ite (fun ge => ?_) (fun ge => ?_)
    · have : lo = a₀.size := by (clear x1 hx h2; lia)
      subst this
      exact wpS_pure ⟨pd, rfl, hB', hr⟩
    refine wpS_bind (wpS_countRun C (by (clear ge x1 hx h2; lia)) (by (clear x2 x1 hx h2; lia)) hB' fun m st2 hB2 kb2 m1 m2 hs2 => ?_)
    dsimp only
    have hr2 := hr.congr (ys := arrOf st2) fun j _ j2 => R_congr (kb2 j j2).symm
    apply wpS_ite
    case' h1 =>
      intro lt
      refine wpS_bind (wpS_lift (wpAny_rule ⟨rfl, ?_⟩))
      refine wpS_bind (wpS_binarySort C (by (clear lt m2 m1 ge x1 hx h2; lia)) (by (clear m1 ge x2 x1 hx h2; lia)) hB2 hs2 fun st3 hB3 kb3 hs3 => ?_)
      simp only [Bool.not_true, Bool.false_eq_true, if_false]
      have hr3 := hr2.congr (ys := arrOf st3) fun j _ j2 => R_congr (kb3 j j2).symm
      have n1 : 1 ≤ min (a₀.size - lo) mr := by (clear m2 m1 x2 x1 hx h2; lia)
      have n2 : min (a₀.size - lo) mr ≤ a₀.size - lo := by (clear n1 lt m2 m1 ge x2 x1 hx h2; lia)
      generalize min (a₀.size - lo) mr = n at hs3 n1 n2 ⊢
    case' h2 =>
      intro lt
      have hr3 := hr2
      have hB3 := hB2
      have hs3 := hs2
      have n1 := m1
      have n2 := m2
      revert hr3 hB3 hs3
      generalize st2 = st3
      revert n1 n2
      generalize m = n
      intro n1 n2 hr3 hB3 hs3
    all_goals
      refine wpS_bind (wpS_get ?_)
      have done : ∀ pd4 st4, SB κ a₀ pd4 st4 → Runs rk (arrOf st4) pd4.toList 0 lo → Seg rk (arrOf st4) lo (lo + n) → wpS (model prog w) A E s (do
            modify fun s => setPending s ((pendingOf s).push (lo, n, 0))
            pure (ForInStep.yield ((none : Option Unit), lo + n))) (fun r st' => match r with
              | ForInStep.done c' => ∃ pd, c' = (none, a₀.size) ∧ SB κ a₀ pd st' ∧ Runs rk (arrOf st') pd.toList 0 a₀.size
              | ForInStep.yield c' => ∃ lo pd, c' = (none, lo) ∧ x + 1 ≤ lo ∧ lo ≤ a₀.size ∧ SB κ a₀ pd st' ∧ Runs rk (arrOf st') pd.toList 0 lo) st4 := by
        intro pd4 st4 hB4 hr4 hs4
        refine wpS_bind (wpS_modify (wpS_pure ⟨lo + n, pd4.push (lo, n, 0), rfl, by (clear n2 lt m2 m1 ge x2 hx h2; lia), by (clear n1 lt m2 m1 ge x1 hx h2; lia), ⟨hB4.perm, hB4.kind, hB4.failed, by show (pendingOf st4).push _ = _; rw [hB4.pend]⟩, ?_⟩))
        rw [Array.toList_push]
        exact Runs.app.mpr ⟨lo, hr4, rfl, n1, hs4, rfl⟩
      cases hb : (pendingOf st3).back? with
      | none => exact done _ _ hB3 hr3 hs3
      | some t =>
        obtain ⟨s1, n1', pw⟩ := t
        dsimp only
        generalize power' a₀.size (2 * s1 + n1') (2 * s1 + n1' + n1' + n) a₀.size = pwr
        refine wpS_bind (wpS_mono (wpS_forRange (I := fun y c st4 => ∃ pd4, c = (none, ()) ∧ SB κ a₀ pd4 st4 ∧ Runs rk (arrOf st4) pd4.toList 0 lo ∧ Seg rk (arrOf st4) lo (lo + n))
          (Q := fun c st4 => ∃ pd4, c = (none, ()) ∧ SB κ a₀ pd4 st4 ∧ Runs rk (arrOf st4) pd4.toList 0 lo ∧ Seg rk (arrOf st4) lo (lo + n)) ?_ (fun _ _ z => z) ⟨_, rfl, hB3, hr3, hs3⟩) ?_)
        · rintro y c st4 _ hy ⟨pd4, rfl, hB4, hr4, hs4⟩
          refine wpS_bind (wpS_get ?_)
          rw [hB4.pend]
          cases hg : (if pd4.size > 1 then pd4[pd4.size - 2]? else none) with
          | none => exact wpS_pure ⟨pd4, rfl, hB4, hr4, hs4⟩
          | some t =>
            obtain ⟨f1, f2, older⟩ := t
            dsimp only
            have gt : pd4.size > 1 := by
              by_cases g : pd4.size > 1
              · exact g
              · rw [if_neg g] at hg; cases hg
            refine wpS_ite (fun _ => ?_) (fun _ => ?_)
            · exact wpS_pure ⟨pd4, rfl, hB4, hr4, hs4⟩
            · refine wpS_bind (wpS_mergeRuns C hB4 hr4 x2 (by (clear hg hy hb n2 n1 lt m2 m1 ge x2 x1 hx h2; lia)) fun pd5 st5 hB5 hr5 _ out5 => ?_)
              simp only [Bool.not_true, Bool.false_eq_true, if_false]
              refine wpS_pure ⟨pd5, rfl, hB5, hr5, fun i j a b c => ?_⟩
              rw [R_congr (out5 i a), R_congr (out5 j (by (clear c gt hg hy hb n2 n1 lt m2 m1 ge x2 x1 hx h2; lia)))]
              exact hs4 i j a b c
        · rintro c st4 ⟨pd4, rfl, hB4, hr4, hs4⟩
          dsimp only
          refine wpS_bind (wpS_modify ?_)
          refine done _ _ ⟨hB4.perm, hB4.kind, hB4.failed, rfl⟩ ?_ hs4
          rw [← hB4.pend] at hr4
          rw [Array.toList_modify]
          refine Runs.modify (fun x => ?_) _ _ _ _ hr4
          exact ⟨rfl, rfl⟩
  case post =>
    rintro c st' ⟨pd, rfl, hB', hr⟩
    dsimp only
    have le := Runs.le hr
    rw [Array.length_toList] at le
    refine wpS_bind (wpS_mono (wpS_forRange (I := fun y c st4 => ∃ pd4, c = (none, ()) ∧ SB κ a₀ pd4 st4 ∧ Runs rk (arrOf st4) pd4.toList 0 a₀.size ∧ pd4.size ≤ max 1 (a₀.size - y))
      (Q := fun c st4 => ∃ pd4, c = (none, ()) ∧ SB κ a₀ pd4 st4 ∧ Runs rk (arrOf st4) pd4.toList 0 a₀.size ∧ pd4.size ≤ 1) ?_ ?_ ⟨pd, rfl, hB', hr, by (clear h2; lia)⟩) ?_)
    · rintro y c st4 _ hy ⟨pd4, rfl, hB4, hr4, le4⟩
      refine wpS_bind (wpS_get ?_)
      rw [hB4.pend]
      refine wpS_ite (fun l1 => ?_) (fun l1 => ?_)
      · exact wpS_pure ⟨pd4, rfl, hB4, hr4, l1⟩
      · have hix : ∀ (c : Prop) [Decidable c], (if c then pd4.size - 2 - 1 else pd4.size - 2) + 1 < pd4.size := by
          intro c _
          split <;> (clear le4 hy le h2; lia)
        refine wpS_bind (wpS_mergeRuns C hB4 hr4 (Nat.le_refl _) (hix _) fun pd5 st5 hB5 hr5 z5 _ => ?_)
        simp only [Bool.not_true, Bool.false_eq_true, if_false]
        exact wpS_pure ⟨pd5, rfl, hB5, hr5, by (clear l1 hy le h2; lia)⟩
    · rintro c st4 ⟨pd4, rfl, hB4, hr4, le4⟩
      exact ⟨pd4, rfl, hB4, hr4, by (clear le h2; lia)⟩
    · rintro c st4 ⟨pd4, rfl, hB4, hr4, le4⟩
      refine wpS_pure (h st4 hB4.perm hB4.failed ?_)
      have ll : pd4.toList.length ≤ 1 := by rw [Array.length_toList]; exact le4
      match hl : pd4.toList, ll, hr4 with
      | [], _, hr4 => have : 0 = a₀.size := hr4; (clear hl ll le4 le; lia)
      | [(s, n, p)], _, hr4 =>
        obtain ⟨_, _, hs, e⟩ := hr4
        have e : 0 + n = a₀.size := e
        rw [e] at hs
        exact hs
end
end Tim
set_option Elab.async false
set_option linter.all false
set_option maxRecDepth 100000
set_option maxHeartbeats 4000000
namespace Tim
open PySem PyProof.Rows
section
variable {prog : Program} {w : World} {A : Around} {E : Value → Shared → Prop} {s : Shared} {κ : SortKind} {rk : Value → Nat}
theorem out_of {vs : List Value} {xs : Array Keyed} (hp : xs.Perm (pairsOf vs)) (hs : Seg rk xs 0 (pairsOf vs).size) : (xs.map (·.2)).toList.Perm vs ∧ (xs.map (·.2)).toList.Pairwise (fun x y => rk x ≤ rk y) := by
  have hl : xs.toList.Perm (vs.zip vs) := by rw [← pairsOf_toList]; exact Array.perm_iff_toList_perm.mp hp
  have hmem : ∀ p, p ∈ xs.toList → p.1 = p.2 := fun p hp' => (mem_zip_self (hl.mem_iff.mp hp')).1
  have e : (xs.map (·.2)).toList = xs.toList.map (·.1) := by
    rw [Array.toList_map]; exact List.map_congr_left fun p hp' => (hmem p hp').symm
  rw [e]
  constructor
  · have := hl.map Prod.fst
    rwa [List.map_fst_zip (Nat.le_refl _)] at this
  · rw [List.pairwise_map, List.pairwise_iff_getElem]
    intro i j hi hj hij
    rw [Array.length_toList] at hi hj
    have := hs i j (Nat.zero_le _) (Nat.le_of_lt hij) (by rw [← hp.size_eq]; exact hj)
    rw [R_get hi, R_get hj] at this
    simpa using this
theorem list_sort_any {a : Addr} {vs : List Value} {n : Nat} {P : PySem.Fin → Shared → Prop} (ho : s.heap.get? a = some (seqObj "list" vs.toArray n)) (hz : vs.length ≤ sizeLine)
    (hk : 2 ≤ vs.length → ∀ h' : Heap, (∀ b o, b ≠ a → s.heap.get? b = some o → h'.get? b = some o) → (∀ (Q : SortKind → Shared → Prop) (E : Value → Shared → Prop), Q κ { s with heap := h' } → wpAny (model prog w) A (keyKind' vs.toArray) Q E { s with heap := h' }) ∧ Cmp prog w A { s with heap := h' } κ (pairsOf vs) rk)
    (h : ∀ out : List Value, out.Perm vs → out.Pairwise (fun x y => rk x ≤ rk y) → P (.done (.ret .none)) { s with heap := sortedHeap s.heap a vs out.toArray }) :
    wpAny (model prog w) A (Builtin.«list.sort» ⟨[.ref a], []⟩) P E s := by
  rw [list_sort_plain]
  have ha : a < s.heap.objs.size := Heap.lt_size ho
  refine wpAny_bind (listItems_at ho rfl ?_)
  refine wpAny_bind (listUpdate_at ho rfl ?_ (by rw [List.size_toArray]; exact hz) (Nat.zero_le _))
  obtain ⟨e1, ho1⟩ : ∃ e1, (s.heap.update a (Obj.mapSeq fun _ => #[])).get? a = some (seqObj "list" #[] e1) := ⟨_, get?_update_seq ho (fun _ => #[])⟩
  refine wpAny_bind (seqEpoch_at ho1 rfl ?_)
  refine wpAny_bind (wpAny_newTuple ?_ (by show vs.length ≤ _; exact hz))
  refine wpAny_bind (wpAny_newList ?_ (Nat.zero_le _))
  refine wpAny_holding ?_
  have keep : ∀ b o, b ≠ a → s.heap.get? b = some o → (((s.heap.update a (Obj.mapSeq fun _ => #[])).push (seqObj "tuple" vs.toArray 0)).push (seqObj "list" #[] 0)).get? b = some o := fun b o nb e => by
    refine Heap.get?_push_of_some _ (Heap.get?_push_of_some _ ?_)
    rw [Heap.get?_update_ne _ _ _ _ nb]
    exact e
  have ho6 : (((s.heap.update a (Obj.mapSeq fun _ => #[])).push (seqObj "tuple" vs.toArray 0)).push (seqObj "list" #[] 0)).get? a = some (seqObj "list" #[] e1) := Heap.get?_push_of_some _ (Heap.get?_push_of_some _ ho1)
  show wpAny (model prog w) A _ P E { s with heap := ((s.heap.update a (Obj.mapSeq fun _ => #[])).push (seqObj "tuple" vs.toArray 0)).push (seqObj "list" #[] 0) }
  dsimp only
  have hsz : vs.toArray.size = vs.length := by simp
  have fin : ∀ st' : SortSt, (arrOf st').Perm (pairsOf vs) → Seg rk (arrOf st') 0 (pairsOf vs).size →
      P (.done (.ret .none)) { s with heap := sortedHeap s.heap a vs ((arrOf st').map (·.2)) } := by
    intro st' hp hs
    obtain ⟨h1, h2⟩ := out_of hp hs
    have := h _ h1 h2
    rwa [Array.toArray_toList] at this
  by_cases h2 : vs.toArray.size < 2
  · rw [if_pos h2, if_pos h2]
    refine wpAny_bind (wpAny_pure ?_)
    rw [StateT.run_pure]
    refine wpAny_bind (wpAny_pure ?_)
    dsimp only
    refine wpAny_bind (seqEpoch_at ho6 rfl ?_)
    refine wpAny_bind (listUpdate_at ho6 rfl ?_ (Nat.zero_le _) (by rw [Array.size_map]; show (pairsOf vs).size ≤ _; rw [pairsOf_size]; omega))
    simp only [bne_self_eq_false, Bool.false_eq_true, if_false]
    refine wpAny_pure (fin (SortSt.mk' general' (vs.toArray.zip vs.toArray) #[] 7 none) (Array.Perm.refl _) ?_)
    intro i j _ hij hj
    have : i = j := by rw [pairsOf_size] at hj; omega
    subst this; exact Nat.le_refl _
  · rw [if_neg h2, if_neg h2]
    obtain ⟨kk, kc⟩ := hk (by omega) _ keep
    refine wpAny_bind (kk _ _ ?_)
    refine wpAny_bind (wpAny_mono (wpS_sortRuns (a₀ := pairsOf vs) (rk := rk) (st := SortSt.mk' κ (vs.toArray.zip vs.toArray) #[] 7 none)
      (Q := fun _ st' => (arrOf st').Perm (pairsOf vs) ∧ failedOf st' = none ∧ Seg rk (arrOf st') 0 (pairsOf vs).size)
      kc ⟨Array.Perm.refl _, rfl, rfl, rfl⟩ (by rw [pairsOf_size]; omega) fun st' a1 a2 a3 => ⟨a1, a2, a3⟩) ?_ fun _ _ e => e)
    rintro ⟨⟨⟩, st'⟩ s' ⟨rfl, hp, hf, hs⟩
    dsimp only
    refine wpAny_bind (seqEpoch_at ho6 rfl ?_)
    refine wpAny_bind (listUpdate_at ho6 rfl ?_ (Nat.zero_le _) (Nat.le_trans (Nat.le_of_eq ((Array.size_map ..).trans (hp.size_eq.trans (pairsOf_size _)))) (Nat.le_succ_of_le hz)))
    rw [hf]
    simp only [bne_self_eq_false, Bool.false_eq_true, if_false]
    exact wpAny_pure (fin st' hp hs)
theorem sorted_any {l : Addr} {vs : List Value} {Q : Value → Shared → Prop} (hl : s.heap.IsList l vs.toArray) (hz : vs.length ≤ sizeLine)
    (hk : 2 ≤ vs.length → ∀ h' : Heap, (∀ b o, s.heap.get? b = some o → h'.get? b = some o) → (∀ (Q : SortKind → Shared → Prop) (E : Value → Shared → Prop), Q κ { s with heap := h' } → wpAny (model prog w) A.in1.in1 (keyKind' vs.toArray) Q E { s with heap := h' }) ∧ Cmp prog w A.in1.in1 { s with heap := h' } κ (pairsOf vs) rk)
    (h : ∀ (h' : Heap) (D : Addr) (c : Nat) (out : List Value), (∀ b o, s.heap.get? b = some o → h'.get? b = some o) → s.heap.objs.size ≤ D → h'.get? D = some (seqObj "list" out.toArray c) → out.Perm vs → out.Pairwise (fun x y => rk x ≤ rk y) → Q (.ref D) { s with heap := h' }) :
    wpAny (model prog w) A (call (.builtin "sorted") [.ref l]) Q E s := by
  refine Calls.call_function_entry kind_sorted plain_sorted entry_sorted (args_sorted1 _) ?_
  unfold Builtin.«sorted»
  refine wpAny_bind (m := checkCount "sorted" 1 1 _) (wpAny_pure ?_)
  refine wpAny_bind (collect_list hl ?_ hz)
  refine wpAny_bind (wpAny_newList ?_ hz)
  have hsz : ((s.heap.push (seqObj "list" #[] 0)).update s.heap.objs.size (Obj.mapSeq (· ++ vs.toArray))).objs.size = s.heap.objs.size + 1 := by
    rw [Heap.size_update, size_push']
  have hoL : (((s.heap.push (seqObj "list" #[] 0)).update s.heap.objs.size (Obj.mapSeq (· ++ vs.toArray))).push (seqObj "list" vs.toArray 0)).get? (s.heap.objs.size + 1) = some (seqObj "list" vs.toArray 0) := by
    rw [← hsz]; exact Heap.get?_push_size _ rfl
  have keep : ∀ b o, s.heap.get? b = some o → (((s.heap.push (seqObj "list" #[] 0)).update s.heap.objs.size (Obj.mapSeq (· ++ vs.toArray))).push (seqObj "list" vs.toArray 0)).get? b = some o := fun b o q => by
    have hlt : b < s.heap.objs.size := Heap.lt_size q
    rw [Heap.get?_push_ne _ _ _ (by rw [hsz]; exact Nat.ne_of_lt (Nat.lt_succ_of_lt hlt)), Heap.get?_update_ne _ _ _ _ (Nat.ne_of_lt hlt), Heap.get?_push_ne _ _ _ (Nat.ne_of_lt hlt)]
    exact q
  show wpAny _ _ _ _ _ { s with heap := ((s.heap.push (seqObj "list" #[] 0)).update s.heap.objs.size (Obj.mapSeq (· ++ vs.toArray))).push (seqObj "list" vs.toArray 0) }
  rw [hsz]
  generalize ((s.heap.push (seqObj "list" #[] 0)).update s.heap.objs.size (Obj.mapSeq (· ++ vs.toArray))).push (seqObj "list" vs.toArray 0) = h1 at keep hoL ⊢
  have nD : ∀ b o, s.heap.get? b = some o → b ≠ s.heap.objs.size + 1 := fun b o e => Nat.ne_of_lt (Nat.lt_succ_of_lt (Heap.lt_size e))
  refine wpAny_bind (wpAny_holding (wpAny_call_entry slot_list_sort ⟨_, hoL, rfl⟩ entry_list_sort (list_sort_any (s := { s with heap := h1 }) hoL hz (fun h2 h' kp => hk h2 h' fun b o e => kp b o (nD b o e) (keep b o e)) fun out p1 p2 => ⟨_, rfl, ?_⟩) (args_list_sort _)))
  refine wpAny_pure ⟨_, rfl, ?_⟩
  obtain ⟨e1, ho1⟩ : ∃ e1, (h1.update (s.heap.objs.size + 1) (Obj.mapSeq fun _ => #[])).get? (s.heap.objs.size + 1) = some (seqObj "list" #[] e1) := ⟨_, get?_update_seq hoL (fun _ => #[])⟩
  have ho2 : (((h1.update (s.heap.objs.size + 1) (Obj.mapSeq fun _ => #[])).push (seqObj "tuple" vs.toArray 0)).push (seqObj "list" #[] 0)).get? (s.heap.objs.size + 1) = some (seqObj "list" #[] e1) := Heap.get?_push_of_some _ (Heap.get?_push_of_some _ ho1)
  refine h (sortedHeap h1 (s.heap.objs.size + 1) vs out.toArray) _ _ out (fun b o e => ?_) (Nat.le_succ _) (by unfold sortedHeap; exact get?_update_seq ho2 (fun _ => out.toArray)) p1 p2
  unfold sortedHeap
  rw [Heap.get?_update_ne _ _ _ _ (nD b o e)]
  refine Heap.get?_push_of_some _ (Heap.get?_push_of_some _ ?_)
  rw [Heap.get?_update_ne _ _ _ _ (nD b o e)]
  exact keep b o e
end
/-! ### ranks out of an order -/
section
theorem countP_lt {α : Type} {p q : α → Bool} {u : α} : ∀ {l : List α}, u ∈ l → q u = true → p u = false → (∀ x, p x = true → q x = true) → l.countP p < l.countP q
  | [], hm, _, _, _ => by simp at hm
  | x :: l, hm, hq, hp, hi => by
    have mono : l.countP p ≤ l.countP q := List.countP_mono_left fun x _ => hi x
    rw [List.countP_cons, List.countP_cons]
    rcases List.mem_cons.mp hm with rfl | hm
    · rw [hq, hp]; simp; omega
    · have := countP_lt hm hq hp hi
      cases e : p x with
      | true => rw [hi x e]; simp; omega
      | false => simp; omega
/-- the rank of a value among the values vs by the order L -/
def rankBy {α : Type} (L : α → α → Bool) (vs : List α) (v : α) : Nat := vs.countP fun u => L u v
structure Swo {α : Type} (L : α → α → Bool) : Prop where
  irr : ∀ a, L a a = false
  tr : ∀ a b c, L a b = true → L b c = true → L a c = true
  ntr : ∀ a b c, L a b = false → L b c = false → L a c = false
theorem rank_lt {α : Type} {L : α → α → Bool} (S : Swo L) {vs : List α} {u v : α} (hu : u ∈ vs) : decide (rankBy L vs u < rankBy L vs v) = L u v := by
  cases e : L u v with
  | true => exact decide_eq_true (countP_lt hu e (S.irr u) fun x hx => S.tr x u v hx e)
  | false =>
    refine decide_eq_false fun z => ?_
    have : rankBy L vs v ≤ rankBy L vs u := List.countP_mono_left fun x _ hx => by
      cases e' : L x u with
      | true => rfl
      | false => rw [S.ntr x u v e' e] at hx; cases hx
    omega
theorem rank_le {α : Type} {L : α → α → Bool} (S : Swo L) {vs : List α} {u v : α} (hv : v ∈ vs) (h : rankBy L vs u ≤ rankBy L vs v) : L v u = false := by
  have := rank_lt S (u := v) (v := u) hv
  rw [← this]
  exact decide_eq_false (by omega)
/-- lists of numbers as tuples are compared -/
def lexB : List Int → List Int → Bool
  | _, [] => false
  | [], _ :: _ => true
  | a :: as, b :: bs => if a = b then lexB as bs else decide (a < b)
theorem lexB_nil (a : List Int) : lexB a [] = false := by cases a <;> rfl
theorem lexB_irr : ∀ a, lexB a a = false
  | [] => rfl
  | a :: as => by unfold lexB; rw [if_pos rfl]; exact lexB_irr as
theorem lexB_tr : ∀ a b c, lexB a b = true → lexB b c = true → lexB a c = true
  | a, [], _, h, _ => by rw [lexB_nil] at h; cases h
  | [], _ :: _, [], _, h => by cases h
  | [], _ :: _, _ :: _, _, _ => rfl
  | _ :: _, _ :: _, [], _, h => by cases h
  | a :: as, b :: bs, c :: cs, h1, h2 => by
    unfold lexB at h1 h2 ⊢
    by_cases e1 : a = b
    · rw [if_pos e1] at h1
      by_cases e2 : b = c
      · rw [if_pos e2] at h2
        rw [if_pos (e1.trans e2)]
        exact lexB_tr as bs cs h1 h2
      · rw [if_neg e2] at h2
        rw [if_neg (e1 ▸ e2), e1]; exact h2
    · rw [if_neg e1] at h1
      have h1 := of_decide_eq_true h1
      by_cases e2 : b = c
      · rw [← e2, if_neg e1]; exact decide_eq_true h1
      · rw [if_neg e2] at h2
        have h2 := of_decide_eq_true h2
        rw [if_neg (by omega)]; exact decide_eq_true (by omega)
theorem lexB_ntr : ∀ a b c, lexB a b = false → lexB b c = false → lexB a c = false
  | a, _, [], _, _ => lexB_nil a
  | [], [], _ :: _, _, h => by cases h
  | [], _ :: _, _ :: _, h, _ => by cases h
  | _ :: _, [], _ :: _, _, h => by cases h
  | a :: as, b :: bs, c :: cs, h1, h2 => by
    unfold lexB at h1 h2 ⊢
    by_cases e1 : a = b
    · rw [if_pos e1] at h1
      by_cases e2 : b = c
      · rw [if_pos e2] at h2
        rw [if_pos (e1.trans e2)]
        exact lexB_ntr as bs cs h1 h2
      · rw [if_neg e2] at h2
        rw [if_neg (e1 ▸ e2), e1]; exact h2
    · rw [if_neg e1] at h1
      have h1 := of_decide_eq_false h1
      by_cases e2 : b = c
      · rw [← e2, if_neg e1]; exact decide_eq_false h1
      · rw [if_neg e2] at h2
        have h2 := of_decide_eq_false h2
        rw [if_neg (by omega)]; exact decide_eq_false (by omega)
theorem swo_key {α : Type} (key : α → List Int) : Swo fun a b => lexB (key a) (key b) := ⟨fun a => lexB_irr _, fun a b c => lexB_tr _ _ _, fun a b c => lexB_ntr _ _ _⟩
end
end Tim
set_option Elab.async false
set_option linter.all false
set_option maxRecDepth 100000
set_option maxHeartbeats 4000000
namespace L2
open PySem PySem.Spec PyProof.Rows PySem.W
section
variable {X : Cx}
/-- what a value is sorted by: a number, or a tuple's numbers -/
def keyOf (h : Heap) : Value → List Int
  | .int n _ => [n]
  | .ref a => match h.get? a with
    | some o => match o.data with
      | .seq xs _ => xs.toList.map numOf
      | _ => []
    | none => []
  | _ => []
/-- what is sorted: numbers; or tuples of numbers, as many in each -/
def Ints1 (h : Heap) (vs : List Value) : Prop := ∀ v ∈ vs, ∃ n t, v = Value.int n t
theorem ints_cmp {prog : Program} {w : World} {A : Around} {s : Shared} {vs : List Value} {h0 : Heap} (T : Ints1 h0 vs) :
    Tim.Cmp prog w A s oneType' (pairsOf vs) (Tim.rankBy (fun a b => Tim.lexB (keyOf h0 a) (keyOf h0 b)) vs) := by
  refine ⟨fun p hp q hq E Q h => ?_⟩
  rw [pairsOf_toList] at hp hq
  obtain ⟨_, mp⟩ := mem_zip_self hp
  obtain ⟨_, mq⟩ := mem_zip_self hq
  rw [Tim.rank_lt (Tim.swo_key (keyOf h0)) mp] at h
  obtain ⟨n, t, ep⟩ := T _ mp
  obtain ⟨m, u, eq⟩ := T _ mq
  rw [ep, eq] at h ⊢
  rw [keyLt'_oneType]
  refine oneLt_int ?_
  have e : Tim.lexB (keyOf h0 (.int n t)) (keyOf h0 (.int m u)) = decide (n < m) := by
    show (if n = m then Tim.lexB [] [] else decide (n < m)) = _
    by_cases e : n = m
    · subst e; rw [if_pos rfl]; simp [Tim.lexB]
    · rw [if_neg e]
  rwa [e] at h
theorem ints_vals : ∀ {ns : List Int} {vs : List Value}, Vals (ns.map V.int) vs → IntsAre vs ns
  | [], _, .nil => .nil
  | n :: ns, _, .cons ⟨t, e⟩ r => by subst e; exact .cons n t (ints_vals r)
def rSortI (K : PySem.W.Frag) : List V → Hp → VK → Prop := fun xs H Q => ∃ (p : Addr) (ns : List Int), xs = [.ref p] ∧ SqL K H p (ns.map V.int) ∧
  ∀ (l : Addr) (ms : List Int), H l = none → ms.Perm ns → ms.Pairwise (fun x y => x ≤ y) → Q (.ref l) (upd H l (.lst (ms.map V.int)))
theorem call_sortI : CallR X (.builtin "sorted") (rSortI X.K) := by
  intro pins s σ H xs us Q I r h
  obtain ⟨p, ns, rfl, hq, q⟩ := h
  obtain ⟨u, rfl, rx⟩ := vals1 r
  cases rx
  obtain ⟨its, rv, pl, hz⟩ := I.list hq
  have hI := ints_vals rv
  have T : Ints1 s.heap its := fun v hv => hI.all v hv
  rw [List.length_map] at hz
  have hl : its.length = ns.length := hI.length
  refine Tim.sorted_any (κ := oneType') (rk := Tim.rankBy (fun a b => Tim.lexB (keyOf s.heap a) (keyOf s.heap b)) its) pl.isList (by omega)
    (fun h2 h' kp => ⟨fun Q E hQ => ?_, ints_cmp T⟩) fun h' D c out kp hD hd hp hs => ?_
  · match its, ns, hI, h2 with
    | [], _, _, h2 => simp at h2
    | [_], _, _, h2 => simp at h2
    | v₁ :: v₂ :: rest, _, hI, _ => rw [keyKind_ints hI]; exact wpAny_pure hQ
  have hO : IntsAre out (out.map numOf) := intsAre_map out fun v hv => T v (hp.mem_iff.mp hv)
  have z1 : Vals ((out.map numOf).map V.int) out := vals_ints hO
  have z2 : (out.map numOf).Perm ns := by rw [← hI.nums]; exact hp.map _
  have hzl : ((out.map numOf).map V.int).length ≤ sizeLine := by rw [List.length_map, z2.length_eq]; exact hz
  refine ⟨.ref D, _, I.laid (t' := s.toks) kp hD (show ObjOk X.prog X.w _ h' _ (.lst ((out.map numOf).map V.int)) from ⟨hzl, out, c, z1, hd⟩), rfl, q D _ (I.hok.fresh hD) z2 ?_⟩
  rw [List.pairwise_map]
  refine List.Pairwise.imp_of_mem (fun {u v} hu hv huv => ?_) hs
  obtain ⟨n, t, rfl⟩ := T u (hp.mem_iff.mp hu)
  obtain ⟨m, t', rfl⟩ := T v (hp.mem_iff.mp hv)
  have := Tim.rank_le (Tim.swo_key (keyOf s.heap)) (hp.mem_iff.mp hv) huv
  have e : Tim.lexB (keyOf s.heap (.int m t')) (keyOf s.heap (.int n t)) = decide (m < n) := by
    show (if m = n then Tim.lexB [] [] else decide (m < n)) = _
    by_cases e : m = n
    · subst e; rw [if_pos rfl]; simp [Tim.lexB]
    · rw [if_neg e]
  have this : Tim.lexB (keyOf s.heap (.int m t')) (keyOf s.heap (.int n t)) = false := this
  rw [e] at this
  have := of_decide_eq_false this
  show n ≤ m
  omega
theorem call_sortIK {K : PySem.W.Frag} (hK : X.K = K) : CallR X (.builtin "sorted") (rSortI K) := by subst hK; exact call_sortI
end
end L2
set_option Elab.async false
set_option linter.all false
set_option maxRecDepth 100000
set_option maxHeartbeats 4000000
namespace L2
open PySem PySem.Spec PyProof.Rows
/-! ### x, y = a list of two -/
section
variable {prog : Program} {w : World} {A : Around} {E : Value → Shared → Prop} {s : Shared}
end
section
variable {X : Cx} {pos : Pos}
end
end L2
set_option Elab.async false
set_option linter.all false
set_option maxRecDepth 100000
set_option maxHeartbeats 4000000
namespace L2
open PySem PySem.Spec PyProof.Rows
/-! ### max(xs, default=d) -/
section
variable {prog : Program} {w : World} {A : Around} {R : Result → Shared → Prop} {it : Addr} {rd wt : List Addr} {n : Nat} {P : Nat → Value → Prop} {St : Nat → Heap → Prop}
end
end L2
set_option Elab.async false
set_option linter.all false
set_option maxRecDepth 100000
set_option maxHeartbeats 4000000
namespace L2
open PySem PySem.Spec PyProof.Rows
section
variable {X : Cx} {K : PySem.W.Frag} {a dE : Expr} {ta : TA} {td : TE} {p pos kp : Pos}
end
end L2
set_option Elab.async false
set_option linter.all false
set_option maxRecDepth 100000
set_option maxHeartbeats 4000000
namespace L2
open PySem
/-! ### tags: to whom an address belongs ([]: to nobody in particular; [0]: never written again; i :: r: to thing i) -/
abbrev Tg := Addr → List Nat
def tgSet (τ : Tg) (x : Addr) (t : List Nat) : Tg := fun y => if y = x then t else τ y
theorem tgSet_same {τ : Tg} {x : Addr} {t : List Nat} : tgSet τ x t x = t := if_pos rfl
theorem tgSet_ne {τ : Tg} {x y : Addr} {t : List Nat} (h : y ≠ x) : tgSet τ x t y = τ y := if_neg h
def Unt (τ : Tg) (H : Hp) : Prop := ∀ x, H x = none → τ x = []
theorem Unt.dom {τ : Tg} {H H' : Hp} (u : Unt τ H) (d : ∀ x, H' x = none → H x = none) : Unt τ H' := fun x e => u x (d x e)
theorem Unt.same {τ : Tg} {H H' : Hp} (u : Unt τ H) (k : Same H H') : Unt τ H' := u.dom fun _ e => k.free e
theorem Unt.claim {τ : Tg} {H H' : Hp} {p : Addr} {t : List Nat} (u : Unt τ H) (k : Same H H') (hp : ∃ o, H' p = some o) : Unt (tgSet τ p t) H' := fun x e => by
  have n : x ≠ p := fun z => by
    obtain ⟨o, ho⟩ := hp
    rw [z, ho] at e
    cases e
  rw [tgSet_ne n]
  exact u.same k x e
theorem ne_tag {τ : Tg} {a b : Addr} {s t : List Nat} (ha : τ a = s) (hb : τ b = t) (h : s ≠ t) : a ≠ b := fun e => h (by rw [← ha, ← hb, e])
/-- the things of i alone are changed -/
structure Stp (i : Nat) (τ : Tg) (H H' : Hp) : Prop where
  keep : ∀ x o, H x = some o → (τ x).head? ≠ some i → H' x = some o
  tup : ∀ x xs, H x = some (.tup xs) → H' x = some (.tup xs)
  dom : ∀ x, H' x = none → H x = none
theorem Stp.of_same {i : Nat} {τ : Tg} {H H' : Hp} (k : Same H H') : Stp i τ H H' := ⟨fun x o e _ => k _ _ e, fun x xs e => k _ _ e, fun x e => k.free e⟩
theorem Stp.un {i : Nat} {τ : Tg} {H H' : Hp} (a : Stp i τ H H') (u : Unt τ H) : Unt τ H' := u.dom a.dom
/-- what belongs to i, and what is never written again, stays -/
structure Mv (i : Nat) (τ : Tg) (H : Hp) (τ' : Tg) (H' : Hp) : Prop where
  keep : ∀ x o, H x = some o → τ x = [0] ∨ (τ x).head? = some i → H' x = some o ∧ τ' x = τ x
  tup : ∀ x xs, H x = some (.tup xs) → H' x = some (.tup xs)
theorem Mv.of_same {i : Nat} {τ : Tg} {H H' : Hp} (k : Same H H') : Mv i τ H τ H' := ⟨fun x o e _ => ⟨k _ _ e, rfl⟩, fun x xs e => k _ _ e⟩
theorem Mv.tags {i : Nat} {τ τ' : Tg} {H H' : Hp} (k : Same H H') (t : ∀ x o, H x = some o → τ' x = τ x) : Mv i τ H τ' H' := ⟨fun x o e _ => ⟨k _ _ e, t x o e⟩, fun x xs e => k _ _ e⟩
theorem Mv.claim {i : Nat} {τ : Tg} {H H' : Hp} {p : Addr} {t : List Nat} (k : Same H H') (hp : H p = none) : Mv i τ H (tgSet τ p t) H' := .tags k fun x o e => tgSet_ne (ne_of_none e hp)
theorem Mv.of_stp {i j : Nat} {τ : Tg} {H H' : Hp} (k : Stp j τ H H') (h : j ≠ i) (h0 : j ≠ 0) : Mv i τ H τ H' := ⟨fun x o e t => ⟨k.keep _ _ e (by
  rcases t with t | t
  · rw [t]; intro z; exact h0 (Option.some.inj z).symm
  · rw [t]; intro z; exact h (Option.some.inj z).symm), rfl⟩, k.tup⟩
end L2
set_option Elab.async false
set_option linter.all false
set_option maxRecDepth 100000
set_option maxHeartbeats 4000000
namespace Prf
open PySem L2
/-! ### programs -/
inductive Ex1 where
  | num (n : Int)
  | box (b : Nat)
  deriving DecidableEq
inductive Exx where
  | one (x : Ex1)
  | two (p : Bool) (x y : Ex1)
  deriving DecidableEq
inductive Rw where
  | load (b c : Nat)
  | store (c : Nat) (e : Exx)
  | swap (b c : Nat) (e : Exx)
  | lett (b : Nat) (e : Exx)
  | say (e : Exx)
  | go (k : Nat)
  | unl (q : Bool) (e f : Exx) (k : Nat)
  deriving DecidableEq
def bxS (b : Nat) : Str := ⟨#[97 + b]⟩
def x1D : Ex1 → PyData
  | .num n => .tuple [.str "number", .int n]
  | .box b => .tuple [.str "box", .str (bxS b)]
def exD : Exx → PyData
  | .one x => x1D x
  | .two p x y => .tuple [.str (if p then "plus" else "minus"), x1D x, x1D y]
def rwD : Rw → PyData
  | .load b c => .tuple [.str "load", .str (bxS b), .int c]
  | .store c e => .tuple [.str "store", .int c, exD e]
  | .swap b c e => .tuple [.str "swap", .str (bxS b), .int c, exD e]
  | .lett b e => .tuple [.str "let", .str (bxS b), exD e]
  | .say e => .tuple [.str "say", exD e]
  | .go k => .tuple [.str "go", .int k]
  | .unl q e f k => .tuple [.str "unless", .str (if q then "=" else "<"), exD e, exD f, .int k]
def x1Ok : Ex1 → Prop
  | .num n => 0 ≤ n ∧ n < 1000
  | .box b => b < 8
def exOk : Exx → Prop
  | .one x => x1Ok x
  | .two _ x y => x1Ok x ∧ x1Ok y
def rwOk (m : Nat) : Rw → Prop
  | .load b c => b < 8 ∧ c < m
  | .store c e => c < m ∧ exOk e
  | .swap b c e => b < 8 ∧ c < m ∧ exOk e
  | .lett b e => b < 8 ∧ exOk e
  | .say e => exOk e
  | .go _ => True
  | .unl _ e f _ => exOk e ∧ exOk f
theorem imm_x1 : ∀ x : Ex1, imm (x1D x) = true
  | .num _ => rfl
  | .box _ => rfl
theorem imm_ex : ∀ e : Exx, imm (exD e) = true
  | .one x => imm_x1 x
  | .two p x y => by simp only [exD, imm, imms, imm_x1, Bool.and_self]
theorem imm_rw : ∀ r : Rw, imm (rwD r) = true
  | .load _ _ => rfl
  | .store _ e => by simp only [rwD, imm, imms, imm_ex, Bool.and_self]
  | .swap _ _ e => by simp only [rwD, imm, imms, imm_ex, Bool.and_self]
  | .lett _ e => by simp only [rwD, imm, imms, imm_ex, Bool.and_self]
  | .say e => by simp only [rwD, imm, imms, imm_ex, Bool.and_self]
  | .go _ => rfl
  | .unl _ e f _ => by simp only [rwD, imm, imms, imm_ex, Bool.and_self]
section
variable {H : Hp} {v : V}
theorem at_x1 {x : Ex1} (h : Dat H v (x1D x)) : ∃ t, v = .ref t ∧ H t = some (.tup (match x with | .num n => [.str "number", .int n] | .box b => [.str "box", .str (bxS b)])) := by
  cases x <;> simp only [x1D, Dat] at h <;> obtain ⟨t, vs, rfl, e, d⟩ := h <;> refine ⟨t, rfl, ?_⟩ <;> rw [e] <;>
  · match vs, d with
    | [a, b], d =>
      simp only [Dats, Dat, and_true] at d
      obtain ⟨rfl, rfl⟩ := d
      rfl
theorem at_two {p : Bool} {x y : Ex1} (h : Dat H v (exD (.two p x y))) : ∃ t a b, v = .ref t ∧ H t = some (.tup [.str (if p then "plus" else "minus"), a, b]) ∧ Dat H a (x1D x) ∧ Dat H b (x1D y) := by
  simp only [exD, Dat] at h
  obtain ⟨t, vs, rfl, e, d⟩ := h
  match vs, d with
  | [a, b, c], d =>
    simp only [Dats, Dat, and_true] at d
    obtain ⟨rfl, d1, d2⟩ := d
    exact ⟨t, _, _, rfl, e, d1, d2⟩
/-- what stands in a row, behind its word -/
def Parts (H : Hp) (vs : List V) : Rw → Prop
  | .load b c => vs = [.str "load", .str (bxS b), .int c]
  | .store c e => ∃ x, vs = [.str "store", .int c, x] ∧ Dat H x (exD e)
  | .swap b c e => ∃ x, vs = [.str "swap", .str (bxS b), .int c, x] ∧ Dat H x (exD e)
  | .lett b e => ∃ x, vs = [.str "let", .str (bxS b), x] ∧ Dat H x (exD e)
  | .say e => ∃ x, vs = [.str "say", x] ∧ Dat H x (exD e)
  | .go k => vs = [.str "go", .int k]
  | .unl q e f k => ∃ x y, vs = [.str "unless", .str (if q then "=" else "<"), x, y, .int k] ∧ Dat H x (exD e) ∧ Dat H y (exD f)
theorem at_rw {r : Rw} (h : Dat H v (rwD r)) : ∃ t vs, v = .ref t ∧ H t = some (.tup vs) ∧ Parts H vs r := by
  cases r <;> simp only [rwD, Dat] at h <;> obtain ⟨t, vs, rfl, e, d⟩ := h <;> refine ⟨t, vs, rfl, e, ?_⟩
  · match vs, d with
    | [a, b, c], d =>
      simp only [Dats, Dat, and_true] at d
      obtain ⟨rfl, rfl, rfl⟩ := d
      rfl
  · match vs, d with
    | [a, b, c], d =>
      simp only [Dats, Dat, and_true] at d
      obtain ⟨rfl, rfl, d⟩ := d
      exact ⟨_, rfl, d⟩
  · match vs, d with
    | [a, b, c, x], d =>
      simp only [Dats, Dat, and_true] at d
      obtain ⟨rfl, rfl, rfl, d⟩ := d
      exact ⟨_, rfl, d⟩
  · match vs, d with
    | [a, b, c], d =>
      simp only [Dats, Dat, and_true] at d
      obtain ⟨rfl, rfl, d⟩ := d
      exact ⟨_, rfl, d⟩
  · match vs, d with
    | [a, b], d =>
      simp only [Dats, Dat, and_true] at d
      obtain ⟨rfl, d⟩ := d
      exact ⟨_, rfl, d⟩
  · match vs, d with
    | [a, b], d =>
      simp only [Dats, Dat, and_true] at d
      obtain ⟨rfl, rfl⟩ := d
      rfl
  · match vs, d with
    | [a, b, c, x, y], d =>
      simp only [Dats, Dat, and_true] at d
      obtain ⟨rfl, rfl, d1, d2, rfl⟩ := d
      exact ⟨_, _, rfl, d1, d2⟩
end
/-! ### hands, going -/
def v1 (bs : List Int) : Ex1 → Int
  | .num n => n % 1000
  | .box b => (bs[b]?).getD 0
def vx (bs : List Int) : Exx → Int
  | .one x => v1 bs x
  | .two true x y => (v1 bs x + v1 bs y) % 1000
  | .two false x y => (v1 bs x - v1 bs y) % 1000
structure HandS where
  (rws : List Rw) (pos : Nat) (bs sy : List Int) (st : Str)
def touch : Rw → Bool
  | .load _ _ => true
  | .store _ _ => true
  | .swap _ _ _ => true
  | _ => false
def holdsR (bs : List Int) : Rw → Bool
  | .unl true e f _ => decide (vx bs e = vx bs f)
  | .unl false e f _ => decide (vx bs e < vx bs f)
  | _ => false
def doRow (s : HandS) : Rw → HandS
  | .lett b e => { s with pos := s.pos + 1, bs := s.bs.set b (vx s.bs e) }
  | .say e => { s with pos := s.pos + 1, sy := s.sy ++ [vx s.bs e] }
  | .go k => { s with pos := k }
  | .unl q e f k => { s with pos := if holdsR s.bs (.unl q e f k) then s.pos + 1 else k }
  | _ => s
def led : Nat → HandS → HandS
  | 0, s => match s.rws[s.pos]? with
    | none => { s with st := "ends" }
    | some r => if touch r then { s with st := "waits" } else { s with st := "lost" }
  | n + 1, s => match s.rws[s.pos]? with
    | none => { s with st := "ends" }
    | some r => if touch r then { s with st := "waits" } else led n (doRow s r)
def lead (s : HandS) : HandS := led 60 s
theorem doRow_rws (s : HandS) (r : Rw) : (doRow s r).rws = s.rws := by cases r <;> rfl
theorem doRow_sy (s : HandS) (r : Rw) : (doRow s r).sy.length ≤ s.sy.length + 1 := by cases r <;> simp [doRow]
theorem led_rws : ∀ (n : Nat) (s : HandS), (led n s).rws = s.rws
  | 0, s => by
    unfold led
    split
    · rfl
    · split <;> rfl
  | n + 1, s => by
    unfold led
    split
    · rfl
    · split
      · rfl
      · rw [led_rws, doRow_rws]
theorem led_sy : ∀ (n : Nat) (s : HandS), (led n s).sy.length ≤ s.sy.length + n
  | 0, s => by
    unfold led
    split
    · simp
    · split <;> simp
  | n + 1, s => by
    unfold led
    split
    · simp
    · split
      · simp
      · rename_i r _ _
        have := led_sy n (doRow s r)
        have := doRow_sy s r
        omega
/-- a hand that waits stands at a touch -/
def HOk (s : HandS) : Prop := s.st = "waits" → ∃ r, s.rws[s.pos]? = some r ∧ touch r = true
theorem ends_ne : (Str.ofString "ends") ≠ Str.ofString "waits" := by decide +kernel
theorem lost_ne : (Str.ofString "lost") ≠ Str.ofString "waits" := by decide +kernel
theorem led_ok : ∀ (n : Nat) (s : HandS), HOk (led n s)
  | 0, s => by
    unfold led HOk
    split
    · intro z; exact absurd z ends_ne
    · rename_i r e
      split
      · intro _; exact ⟨r, e, by assumption⟩
      · intro z; exact absurd z lost_ne
  | n + 1, s => by
    unfold led
    split
    · intro z; exact absurd z ends_ne
    · rename_i r e
      split
      · intro _; exact ⟨r, e, by assumption⟩
      · exact led_ok n _
def new (rws : List Rw) : HandS := ⟨rws, 0, List.replicate 8 0, [], "waits"⟩
/-! ### a works -/
structure WkS where
  (m : Nat) (ns : List Int) (hs : List HandS) (ts : List Int)
def cellR : Rw → Nat
  | .load _ c => c
  | .store c _ => c
  | .swap _ c _ => c
  | _ => 0
def wordR : Rw → Str
  | .load _ _ => "load"
  | .store _ _ => "store"
  | .swap _ _ _ => "swap"
  | .lett _ _ => "let"
  | .say _ => "say"
  | .go _ => "go"
  | .unl _ _ _ _ => "unless"
/-- what a touch reads, writes -/
def readR (ns : List Int) : Rw → Option Int
  | .load _ c => ns[c]?
  | .swap _ c _ => ns[c]?
  | _ => none
def writR (bs : List Int) : Rw → Option Int
  | .store _ e => some (vx bs e)
  | .swap _ _ e => some (vx bs e)
  | _ => none
def oV : Option Int → V
  | none => .non
  | some i => .int i
def oD : Option Int → PyData
  | none => .none
  | some i => .int i
def touchV (ns bs : List Int) (r : Rw) : List V := [.str (wordR r), .int (cellR r), oV (readR ns r), oV (writR bs r)]
def boxesR (ns bs : List Int) : Rw → List Int
  | .load b c => bs.set b ((ns[c]?).getD 0)
  | .swap b c _ => bs.set b ((ns[c]?).getD 0)
  | _ => bs
def cellsR (ns bs : List Int) : Rw → List Int
  | .store c e => ns.set c (vx bs e)
  | .swap _ c e => ns.set c (vx bs e)
  | _ => ns
def goneS (ns : List Int) (s : HandS) (r : Rw) : HandS := lead { s with pos := s.pos + 1, bs := boxesR ns s.bs r }
def turnS (S : WkS) (k : Nat) : WkS := match S.hs[k]? with
  | none => S
  | some s => match s.rws[s.pos]? with
    | none => S
    | some r => { S with ns := cellsR S.ns s.bs r, hs := S.hs.set k (goneS S.ns s r), ts := S.ts ++ [(k : Int)] }
def begS (m : Nat) (ns : List Int) (rws : List (List Rw)) : WkS := ⟨m, ns, rws.map fun r => lead (new r), []⟩
end Prf
namespace L2
open PySem Prf
theorem Dats.kp {H H' : Hp} {vs : List V} {rws : List Rw} (d : Dats H vs (rws.map rwD)) (t : ∀ x xs, H x = some (.tup xs) → H' x = some (.tup xs)) : Dats H' vs (rws.map rwD) := d.keep t _ (imms_map rwD imm_rw rws)
end L2
set_option Elab.async false
set_option linter.all false
set_option maxRecDepth 100000
set_option maxHeartbeats 4000000
namespace L2
open PySem PySem.Spec PyProof.Rows
section
variable {X : Cx} {k : Nat} {C : Addr} {sp : Sp}
end
end L2
set_option Elab.async false
set_option linter.all false
set_option maxRecDepth 100000
set_option maxHeartbeats 4000000
namespace L2
open PySem PySem.Spec PyProof.Rows
/-! ### zip of two tuples -/
section
variable {prog : Program} {w : World} {A : Around} {E : Value → Shared → Prop} {s : Shared}
end
end L2
set_option Elab.async false
set_option linter.all false
set_option maxRecDepth 100000
set_option maxHeartbeats 4000000
namespace L2
open PySem PySem.Spec PyProof.Rows
section
variable {prog : Program} {w : World} {A : Around} {E : Value → Shared → Prop} {s : Shared}
end
section
variable {X : Cx}
end
section
variable {K : PySem.W.Frag} {D : Addr} {xs : List V} {tc : TT} {te : TE} {Q : VK} {rest : St} {H1 : Hp}
end
end L2
set_option Elab.async false
set_option linter.all false
set_option maxRecDepth 100000
set_option maxHeartbeats 4000000
namespace Prf
open PySem L2
/-! ### numbers stay in their bounds -/
def inR (x : Int) : Prop := 0 ≤ x ∧ x < 1000
def allR (l : List Int) : Prop := ∀ x ∈ l, inR x
/-! ### what is told of a works, as data -/
def intsD (l : List Int) : PyData := .list (l.map PyData.int)
theorem can_ints (l : List Int) : (intsD l).canLay0 = true ∧ (intsD l).depth ≤ 1 := ⟨canAll_map PyData.int l fun _ _ => rfl, by
  have := depthAll_map PyData.int 0 l fun _ _ => by show 0 ≤ 0; decide
  show PyData.depthAll (l.map PyData.int) + 1 ≤ 1
  omega⟩
mutual
theorem eqv_self : ∀ d : PyData, d.canLay0 = true → PyData.eqv d d = true
  | .none, _ => rfl
  | .bool b, _ => by simp [PyData.eqv]
  | .int i, _ => by simp [PyData.eqv]
  | .str x, _ => by simp [PyData.eqv]
  | .list ds, h => by simp only [PyData.eqv]; exact eqv_selfs ds (by simpa [PyData.canLay0] using h)
  | .tuple ds, h => by simp only [PyData.eqv]; exact eqv_selfs ds (by simpa [PyData.canLay0] using h)
  | .dict _, h => by simp [PyData.canLay0] at h
theorem eqv_selfs : ∀ ds : List PyData, PyData.canLayAll0 ds = true → PyData.eqvAll ds ds = true
  | [], _ => rfl
  | d :: ds, h => by
    simp only [PyData.canLayAll0, Bool.and_eq_true] at h
    simp only [PyData.eqvAll, Bool.and_eq_true]
    exact ⟨eqv_self d h.1, eqv_selfs ds h.2⟩
end
theorem eqv_sh {d : PyData} (h : SeqAt.shaped d = true) : PyData.eqv d d = true := by
  unfold SeqAt.shaped at h
  rw [Bool.and_eq_true] at h
  exact eqv_self d h.1
/-! ### neighbours exchanged -/
def isLoad : Rw → Bool
  | .load _ _ => true
  | _ => false
def apart (r q : Rw) : Prop := cellR r ≠ cellR q ∨ (isLoad r = true ∧ isLoad q = true)
end Prf
set_option Elab.async false
set_option linter.all false
set_option maxRecDepth 100000
set_option maxHeartbeats 4000000
namespace L2
open PySem
/-! ### what is new at a heap -/
def nw (H H' : Hp) : Hp := fun x => match H x with
  | none => H' x
  | some _ => none
theorem nw_at {H H' : Hp} {x : Addr} {o : HO} (n : H x = none) (e : H' x = some o) : nw H H' x = some o := by
  unfold nw; rw [n]; exact e
theorem nw_inv {H H' : Hp} {x : Addr} {o : HO} (e : nw H H' x = some o) : H x = none ∧ H' x = some o := by
  unfold nw at e
  cases q : H x with
  | none => rw [q] at e; exact ⟨rfl, e⟩
  | some u => rw [q] at e; cases e
theorem nw_same (H H' : Hp) : Same (nw H H') H' := fun x o e => (nw_inv e).2
section
variable {K : PySem.W.Frag} {a D : Addr} {xs : List V} {te : TE} {Q : VK} {rest : St} {H1 : Hp}
def nwB (H1 : Hp) (D : Addr) (H : Hp) : Hp := fun x => if x = D then none else nw H1 H x
theorem nwB_inv {H H1 : Hp} {x : Addr} {o : HO} (e : nwB H1 D H x = some o) : x ≠ D ∧ H1 x = none ∧ H x = some o := by
  unfold nwB at e
  by_cases z : x = D
  · rw [if_pos z] at e; cases e
  · rw [if_neg z] at e; exact ⟨z, nw_inv e⟩
theorem nwB_at {H H1 : Hp} {x : Addr} {o : HO} (z : x ≠ D) (n : H1 x = none) (e : H x = some o) : nwB H1 D H x = some o := by
  unfold nwB; rw [if_neg z]; exact nw_at n e
theorem nwB_step {H H4 : Hp} {o : HO} (s : Same H H4) : Same (nwB H1 D H) (nwB H1 D (upd H4 D o)) := fun x u e => by
  obtain ⟨z, n, h⟩ := nwB_inv e
  exact nwB_at z n (by rw [upd_ne z]; exact s _ _ h)
theorem nwB_new {H H4 : Hp} {o u : HO} (s : Same H1 H) (e : H D = some u) : Same (nw H H4) (nwB H1 D (upd H4 D o)) := fun x v h => by
  obtain ⟨n, h⟩ := nw_inv h
  have z : x ≠ D := (ne_of_none e n).symm
  exact nwB_at z (s.free n) (by rw [upd_ne z]; exact h)
theorem nwB_nw {H : Hp} : Same (nwB H1 D H) (nw H1 H) := fun x o e => by
  obtain ⟨_, n, h⟩ := nwB_inv e
  exact nw_at n h
/-- items that are new data, over a range -/
theorem comp_newR {n : Nat} (f : Nat → PyData) (hD : H1 D = none) (hx : n ≤ 100000)
    (hs : ∀ i H (F : VK), i < n → Same H1 H → (∀ y H', Same H H' → Dat (nw H H') y (f i) → F y H') → te (some (.int (0 + i)) :: rest) H F)
    (hd : ∀ H, Same H1 H → Dat (nw H1 H) (.ref D) (.list ((List.range n).map f)) → Q (.ref D) H) : CompW (Itr 0 n) (gName 0) tAll te Q D (none :: rest) H1 := by
  refine comp_range (lo := 0) (n := n) (fun i σ H => (∃ v, σ = v :: rest) ∧ Same H1 H ∧ ∃ vs, H D = some (.lst vs) ∧ Dats (nwB H1 D H) vs ((List.range i).map f)) ⟨⟨none, rfl⟩, same_new hD, [], upd_same, by simp [Dats]⟩ ?_ (fun σ H ⟨_, sm, vs, e, d⟩ => hd H sm (dat_list (nw_at hD e) (d.same nwB_nw _)))
  rintro i σ H hi ⟨⟨v, rfl⟩, sm, vs, e, d⟩
  refine hs i H _ hi sm fun y H4 s4 dy => ?_
  have hl : vs.length = i := by rw [d.length]; simp
  refine ⟨vs, s4 _ _ e, ?_, ⟨_, rfl⟩, (sm.trans s4).newly hD, vs ++ [y], upd_same, ?_⟩
  · rw [sizeLine_eq]; omega
  · rw [List.range_succ, List.map_append]
    exact dats_snoc (d.same (nwB_step s4) _) (dy.same (nwB_new sm e) _)
/-- items that are new data, over a list -/
theorem comp_newL (f : Nat → PyData) (hD : H1 D = none) (hq : SqL K H1 a xs) (hx : xs.length ≤ 100000)
    (hs : ∀ i x H (F : VK), xs[i]? = some x → Same H1 H → (∀ y H', Same H H' → Dat (nw H H') y (f i) → F y H') → te (some x :: rest) H F)
    (hd : ∀ H, Same H1 H → Dat (nw H1 H) (.ref D) (.list ((List.range xs.length).map f)) → Q (.ref D) H) : CompW (Itl K a) (gName 0) tAll te Q D (none :: rest) H1 := by
  refine comp_list (K := K) (xs := xs) (fun i σ H => (∃ v, σ = v :: rest) ∧ Same H1 H ∧ ∃ vs, H D = some (.lst vs) ∧ Dats (nwB H1 D H) vs ((List.range i).map f)) ⟨⟨none, rfl⟩, same_new hD, [], upd_same, by simp [Dats]⟩ (fun i σ H _ ⟨_, sm, _⟩ => sm.sqL _ _ hq) ?_ (fun σ H ⟨_, sm, vs, e, d⟩ => hd H sm (dat_list (nw_at hD e) (d.same nwB_nw _)))
  rintro i x σ H hi ⟨⟨v, rfl⟩, sm, vs, e, d⟩
  have hil : i < xs.length := (List.getElem?_eq_some_iff.mp hi).1
  refine hs i x H _ hi sm fun y H4 s4 dy => ?_
  have hl : vs.length = i := by rw [d.length]; simp
  refine ⟨vs, s4 _ _ e, ?_, ⟨_, rfl⟩, (sm.trans s4).newly hD, vs ++ [y], upd_same, ?_⟩
  · rw [sizeLine_eq]; omega
  · rw [List.range_succ, List.map_append]
    exact dats_snoc (d.same (nwB_step s4) _) (dy.same (nwB_new sm e) _)
end
end L2
set_option Elab.async false
set_option linter.all false
set_option maxRecDepth 100000
set_option maxHeartbeats 4000000
namespace L2
open PySem PySem.Spec PySem.P PyProof.Rows
/-! ### sum(lists, start=[]) -/
section
variable {prog : Program} {w : World} {A : Around} {R : Result → Shared → Prop} {it : Addr} {rd wt : List Addr} {n : Nat} {P : Nat → Value → Prop} {St : Nat → Heap → Prop}
theorem sum_loopL (W : Walks prog w A.in1 it rd wt n P St) (ad : Nat → Addr) (itm : Nat → List Value) (hP : ∀ i v, P i v → v = .ref (ad i)) (S : Addr) (hn : S ∉ rd) (hw : ∀ b ∈ wt, b < S) :
    ∀ (k i : Nat) (s : Shared) (T : Addr) (arr : List Value) (c cS : Nat), n - i = k → i ≤ n → St i s.heap → IsL s.heap S #[.ref T] cS → IsL s.heap T arr.toArray c → T ∉ wt → T ≠ S →
    (∀ j, j < n → ad j ∉ wt ∧ ad j ≠ S ∧ ∃ m, IsL s.heap (ad j) (itm j).toArray m) → (arr ++ (List.range' i k).flatMap itm).length ≤ sizeLine →
    (∀ T' c' h' tk, IsL h' T' (arr ++ (List.range' i k).flatMap itm).toArray c' → (k = 0 ∧ T' = T ∨ S < T') → (∀ b o, b ∉ wt → b ≠ S → s.heap.get? b = some o → h'.get? b = some o) → R (.ok (.ret (.ref T'))) { s with heap := h', toks := tk }) →
    codeAny (model prog w) A (.builtin "sum.loop" ⟨[.ref it, .ref S, rawInt 2, rawInt 0], []⟩) R s := by
  have nw : S ∉ wt := fun z => hn (W.sub _ z)
  intro k
  induction k with
  | zero =>
    intro i s T arr c cS ek li st eS eT nT nTS hA hz done
    obtain rfl : i = n := by omega
    refine codeAny_builtin F.entry_sum_loop ?_; rw [Around.under_plainId F.plain_sum_loop _]
    refine (show wpAny _ A.in1 (seqItems? (.ref S) >>= _) _ _ s from wpAny_bind (wpAny_seqItems eS rfl ?_))
    refine (show wpAny _ A.in1 (tryCatch (pyNext (.ref it)) _ >>= _) _ _ s from wpAny_bind (wpAny_tryCatch (W.done s _ _ st fun h' tk kp => ?_)))
    refine wpAny_pure (done T c h' tk ?_ (.inl ⟨rfl, rfl⟩) fun b o nb _ e => kp b o nb e)
    simp only [List.range'_zero, List.flatMap_nil, List.append_nil]
    exact kp T _ nT eT
  | succ k ih =>
    intro i s T arr c cS ek li st eS eT nT nTS hA hz done
    have lt : i < n := by omega
    have hz' : (arr ++ itm i ++ (List.range' (i + 1) k).flatMap itm).length ≤ sizeLine := by
      rw [List.range'_succ, List.flatMap_cons] at hz
      rw [List.append_assoc]; exact hz
    obtain ⟨na, naS, m, eA⟩ := hA i lt
    refine codeAny_builtin F.entry_sum_loop ?_; rw [Around.under_plainId F.plain_sum_loop _]
    refine (show wpAny _ A.in1 (seqItems? (.ref S) >>= _) _ _ s from wpAny_bind (wpAny_seqItems eS rfl ?_))
    refine (show wpAny _ A.in1 (tryCatch (pyNext (.ref it)) _ >>= _) _ _ s from wpAny_bind (wpAny_tryCatch (W.item i s _ _ lt st fun v h' tk pv st' kp => ?_)))
    obtain rfl := hP i v pv
    have eS' := kp S _ nw eS
    have eT' : IsL h' T arr.toArray c := kp T _ nT eT
    have eA' : IsL h' (ad i) (itm i).toArray m := kp _ _ na eA
    show wpAny _ A.in1 ((holding [Value.ref (ad i)] (binaryOp .Add (.ref T) (.ref (ad i)))).attempt >>= _) _ _ _
    refine wpAny_bind (wpAny_attempt (wpAny_holding (PySem.P.add_list (s := { s with heap := h', toks := tk }) eT' eA' ?_ ?_)))
    rotate_left
    · rw [List.size_toArray, List.size_toArray]
      simp only [List.length_append] at hz'
      omega
    dsimp only
    have l1 : S < h'.objs.size := Heap.lt_size eS'
    have ne1 : h'.objs.size ≠ S := Nat.ne_of_gt l1
    have nn : ∀ b ∈ wt, b ≠ h'.objs.size := fun b hb => Nat.ne_of_lt (Nat.lt_trans (hw b hb) l1)
    generalize hob : ({ cls := .type "list", data := .seq (arr.toArray ++ (itm i).toArray) } : Obj) = ob
    have eS2 := Heap.get?_push_of_some ob eS'
    refine (show wpAny _ A.in1 (updateSeq S (fun _ => #[.ref h'.objs.size]) >>= _) _ _ _ from wpAny_bind (wpAny_updateSeq eS2 rfl (wpAny_bind (wpAny_letGo ?_))))
    have eS3 := Heap.get?_update_self (Obj.mapSeq fun _ => #[Value.ref h'.objs.size]) eS2 rfl
    refine (show wpAny _ A.in1 (updateSeq S (fun _ => #[.ref h'.objs.size]) >>= _) _ _ _ from wpAny_bind (wpAny_updateSeq eS3 rfl ?_))
    have eS4 := Heap.get?_update_self (Obj.mapSeq fun _ => #[Value.ref h'.objs.size]) eS3 rfl
    have oth : ∀ b o, b ≠ S → h'.get? b = some o → (((h'.push ob).update S (Obj.mapSeq fun _ => #[Value.ref h'.objs.size])).update S (Obj.mapSeq fun _ => #[Value.ref h'.objs.size])).get? b = some o := fun b o nb e =>
      (Heap.get?_update_other _ _ (Ne.symm nb)).trans ((Heap.get?_update_other _ _ (Ne.symm nb)).trans (Heap.get?_push_of_some _ e))
    have eT4 : (((h'.push ob).update S (Obj.mapSeq fun _ => #[Value.ref h'.objs.size])).update S (Obj.mapSeq fun _ => #[Value.ref h'.objs.size])).get? h'.objs.size = some ob :=
      (Heap.get?_update_other _ _ (Ne.symm ne1)).trans ((Heap.get?_update_other _ _ (Ne.symm ne1)).trans (Heap.get?_push_size _ (by rw [← hob]; rfl)))
    refine wpAny_pure ⟨plainId_quiet F.plain_sum_loop _, ih (i + 1) _ h'.objs.size (arr ++ itm i) 0 _ (by omega) lt (W.frame _ _ _ st' fun b hb o e => oth b o (fun z => hn (z ▸ hb)) e) eS4 ?_ (fun z => nn _ z rfl) ne1 ?_ hz' fun T' c' h2 tk2 eT2 hT kp2 => ?_⟩
    · refine eT4.trans ?_
      rw [← hob]
      simp
    · intro j lj
      obtain ⟨na, naS, m, eA⟩ := hA j lj
      exact ⟨na, naS, m, oth _ _ naS (kp _ _ na eA)⟩
    · refine done T' c' h2 tk2 ?_ (.inr ?_) fun b o nb nS e => kp2 b o nb nS (oth b o nS (kp b o nb e))
      · rw [List.range'_succ, List.flatMap_cons, ← List.append_assoc]; exact eT2
      · rcases hT with ⟨_, rfl⟩ | hT
        · exact l1
        · exact hT
theorem sub_list_str' : isSubtype (.type "list") (.type "str") = pure false := by rw [isSubtype_type]; kernel_rfl
theorem sub_list_bytes' : isSubtype (.type "list") (.type "bytes") = pure false := by rw [isSubtype_type]; kernel_rfl
theorem sub_list_bytearray' : isSubtype (.type "list") (.type "bytearray") = pure false := by rw [isSubtype_type]; kernel_rfl
theorem sum_callL {E : Value → Shared → Prop} {s : Shared} {x : Value} {d : Addr} {Q : Value → Shared → Prop}
    (h : wpAny (model prog w) A.in1 (pyIter x) (fun y s2 => ∃ (it : Addr) (rd wt : List Addr) (n : Nat) (P : Nat → Value → Prop) (St : Nat → Heap → Prop) (ad : Nat → Addr) (itm : Nat → List Value) (c : Nat), y = .ref it ∧ Walks prog w A.in1 it rd wt n P St ∧ St 0 s2.heap ∧ (∀ b ∈ rd, b < s2.heap.objs.size) ∧
      (∀ i v, P i v → v = .ref (ad i)) ∧ IsL s2.heap d #[] c ∧ d ∉ wt ∧ (∀ j, j < n → ad j ∉ wt ∧ ∃ m, IsL s2.heap (ad j) (itm j).toArray m) ∧ 0 < n ∧ ((List.range' 0 n).flatMap itm).length ≤ sizeLine ∧
      ∀ T c' h' tk, IsL h' T ((List.range' 0 n).flatMap itm).toArray c' → s2.heap.objs.size ≤ T → (∀ b o, b ∉ wt → s2.heap.get? b = some o → h'.get? b = some o) → Q (.ref T) { s2 with heap := h', toks := tk }) E s) :
    wpAny (model prog w) A (call (.builtin "sum") [x] [(Str.ofString "start", .ref d)]) Q E s := by
  have ok : argsOk "sum" ⟨[x], [(Str.ofString "start", .ref d)]⟩ := by unfold argsOk; kernel_rfl
  refine wpAny_call (codeAny_call_builtin F.plain_sum F.entry_sum ?_); simp only [checkBuiltinCall, F.kind_sum]
  have run : wpAny (model prog w) A.in1 (Builtin.«sum» ⟨[x], [(Str.ofString "start", .ref d)]⟩) (fun fin s' => match fin with | .done f => (match (Except.ok f : Result) with | .ok (.ret v) => Q v s' | .ok _ => False | .error e => E e s') | .again c' => c'.quiet = true ∧ codeAny (model prog w) A c' (fun r s' => match r with | .ok (.ret v) => Q v s' | .ok _ => False | .error e => E e s') s') E s := by
    refine (show wpAny _ A.in1 (Builtin.Builtins.bindParams "sum" ["start"] 0 ⟨[], [(Str.ofString "start", .ref d)]⟩ >>= _) _ _ s from wpAny_bind (wpAny_of_eq (show _ = pure [some (.ref d)] from rfl) (wpAny_bind (wpAny_mono h (fun y s2 h2 => ?_) fun _ _ z => z))))
    obtain ⟨it, rd, wt, n, P, St, ad, itm, c, rfl, W, st, lt, hP, ed, nd, hA, n0, hz, k⟩ := h2
    refine wpAny_bind (wpAny_pure ?_)
    simp only [List.forIn_cons, List.forIn_nil]
    have td : s2.TypeIs (.ref d) "list" := ⟨_, ed, rfl⟩
    refine wpAny_bind (wpAny_bind (wpAny_bind (wpAny_isInstance (T := "list") (b := false) td sub_list_str' ?_)))
    simp only [Bool.false_eq_true, if_false]
    refine wpAny_pure (wpAny_bind (wpAny_bind (wpAny_isInstance (T := "list") (b := false) td sub_list_bytes' ?_)))
    simp only [Bool.false_eq_true, if_false]
    refine wpAny_pure (wpAny_bind (wpAny_bind (wpAny_isInstance (T := "list") (b := false) td sub_list_bytearray' ?_)))
    simp only [Bool.false_eq_true, if_false]
    refine wpAny_pure (wpAny_pure ?_)
    refine wpAny_bind (wpAny_newObj_type ?_)
    have ls : ∀ b o, s2.heap.get? b = some o → b ≠ s2.heap.objs.size := fun b o e => Nat.ne_of_lt (Heap.lt_size e)
    refine wpAny_pure ⟨plainId_quiet F.plain_sum_loop _, sum_loopL W ad itm hP s2.heap.objs.size (fun z => Nat.lt_irrefl _ (lt _ z)) (fun b hb => lt _ (W.sub _ hb)) n 0 _ d [] c 0 rfl (Nat.zero_le _) (W.frame _ _ _ st fun b _ o e => Heap.get?_push_of_some _ e) (Heap.get?_push_size _ rfl) (Heap.get?_push_of_some _ ed) nd (ls _ _ ed) (fun j lj => ?_) hz fun T c' h' tk eT hT kp => ?_⟩
    · obtain ⟨na, m, e⟩ := hA j lj
      exact ⟨na, ls _ _ e, m, Heap.get?_push_of_some _ e⟩
    · refine k T c' h' tk eT ?_ fun b o nb e => kp b o nb (ls _ _ e) (Heap.get?_push_of_some _ e)
      rcases hT with ⟨z, _⟩ | hT
      · omega
      · exact Nat.le_of_lt hT
  cases sg : Manifest.signature? "sum" with
  | none => exact wpAny_pure run
  | some sig =>
    have eq : Bind.checkArgs "sum" sig ⟨[x], [(Str.ofString "start", .ref d)]⟩ = pure () := by simpa only [argsOk, sg] using ok
    simp only [eq]; exact wpAny_pure run
end
/-- sum(xs, start=[]), xs a list of lists (one at least) -/
def tSumL (K : PySem.W.Frag) (ta : TA) (td : TE) : TE := fun σ H Q => ta σ H fun vs H1 => td σ H1 fun dv H2 => ∃ (p d : Addr) (as : List Addr) (xss : List (List V)), vs = [.ref p] ∧ dv = .ref d ∧ SqL K H2 p (as.map V.ref) ∧ H2 d = some (.lst []) ∧ 0 < as.length ∧ as.length = xss.length ∧
  (∀ (i : Nat) (a : Addr) (xs : List V), as[i]? = some a → xss[i]? = some xs → H2 a = some (.lst xs)) ∧ xss.flatten.length ≤ sizeLine ∧ ∀ T, H2 T = none → Q (.ref T) (upd H2 T (.lst xss.flatten))
section
variable {X : Cx} {K : PySem.W.Frag} {a dE : Expr} {ta : TA} {td : TE} {p pos kp : Pos}
theorem pe_sumL (hK : X.K = K) (hc : X.calm = true) (hg : Gl X "sum") (hm : X.mg "sum" = none) (hv : bootBuiltins "sum" = some (.builtin "sum")) (ha : PA X [a] ta) (hd : PE X dE td)
    (he : backTo pos (starEach [a] X.env) = (false, eval a X.env) :: backTo pos (starEach [] X.env) := by rfl)
    (hplain : (backTo pos (starEach [a] X.env)).any (·.1) = false := by rfl) :
    PE X (.Call (.Name "sum" p) [a] [⟨some "start", dE, kp⟩] pos) (tSumL K ta td) := by
  subst hK
  intro pins s σ H Q I h
  refine wpAny_Call_Name_kw (ld_blt I hg hm hv ?_ (by decide) (by decide))
  refine PyProof.Rows.callWith_kw (thn (ha pos pins s σ H _ I h) fun us s1 ⟨vs, H1, I1, r1, q1⟩ => ?_) he hplain
  refine PyProof.Rows.kws_cons (thn (hd pins s1 σ H1 _ I1 q1) fun dv s2 ⟨x, H2, I2, r2, q2⟩ => PyProof.Rows.kws_nil ?_)
  obtain ⟨p, d, as, xss, rfl, rfl, hq, hd0, n0, ll, hx, hz, q⟩ := q2
  obtain ⟨u, rfl, rx⟩ := vals1 r1
  cases rx
  cases r2
  obtain ⟨its, rv, pl, hz'⟩ := I2.list hq
  have ei : its = as.map Value.ref := vals_refs rv
  have hlen : its.length = as.length := by rw [ei, List.length_map]
  obtain ⟨_, dits, dn, dr, dl, ed⟩ := I2.lstM hd0
  have dnil : dits = [] := by cases dr; rfl
  subst dnil
  have lsts : ∀ i : Nat, ∃ (it' : List Value), i < as.length → ∃ (a : Addr) (xs : List V) (m : Nat), as[i]? = some a ∧ xss[i]? = some xs ∧ Vals xs it' ∧ IsL s2.heap a it'.toArray m := fun i => by
    by_cases lt : i < as.length
    · obtain ⟨_, its', m, r', _, e'⟩ := I2.lstM (hx i as[i] (xss[i]'(by omega)) (by simp [lt]) (by simp))
      exact ⟨its', fun _ => ⟨as[i], xss[i]'(by omega), m, by simp [lt], by simp, r', e'⟩⟩
    · exact ⟨[], fun z => absurd z lt⟩
  obtain ⟨itm, hit⟩ := Classical.axiomOfChoice lsts
  have vf : Vals xss.flatten ((List.range' 0 as.length).flatMap itm) := by
    have key : ∀ (ys : List (List V)) (i : Nat), (∀ j, j < ys.length → Vals ((ys[j]?).getD []) (itm (i + j))) → Vals ys.flatten ((List.range' i ys.length).flatMap itm) := by
      intro ys
      induction ys with
      | nil => intro i _; exact .nil
      | cons y ys ih =>
        intro i hv'
        rw [List.flatten_cons, List.length_cons, List.range'_succ, List.flatMap_cons]
        refine (hv' 0 (by simp)).append (ih (i + 1) fun j hj => ?_)
        have := hv' (j + 1) (by simpa using hj)
        rw [show i + 1 + j = i + (j + 1) by omega]
        simpa using this
    rw [ll]
    refine key xss 0 fun j hj => ?_
    obtain ⟨a, xs, m, _, e2, r', _⟩ := hit j (by omega)
    rw [e2, Nat.zero_add]
    exact r'
  have wl := vf.length
  show wpAny (model X.prog X.w) X.A (call (.builtin "sum") [.ref p] [(Str.ofString "start", .ref d)]) _ _ s2
  have new : ∀ b o, s2.heap.get? b = some o → b ∉ [s2.heap.objs.size] := fun b o e z => by
    have := Heap.lt_size e
    rw [List.mem_singleton.mp z] at this
    exact Nat.lt_irrefl _ this
  refine sum_callL (wpAny_pyIter_list pl.isList ⟨s2.heap.objs.size, [s2.heap.objs.size, p], [s2.heap.objs.size], its.length, _, _, fun i => (as[i]?).getD 0, itm, dn, rfl,
    walks_list (show X.A.in1.handled = none from I2.ok.hd hc) s2.heap.objs.size p ?_ its, ⟨⟨_, Heap.get?_push_size _ rfl, rfl, rfl⟩, ?_⟩, ?_, ?_, Heap.get?_push_of_some _ ed, new _ _ ed, ?_, ?_, ?_, ?_⟩)
  · intro z
    obtain ⟨o, ho, _⟩ := pl.isList
    have := Heap.lt_size ho
    rw [← z] at this
    exact Nat.lt_irrefl _ this
  · obtain ⟨o, ho, hcl⟩ := pl.isList
    exact ⟨o, Heap.get?_push_of_some _ ho, hcl⟩
  · intro b hb
    have hsz : (s2.heap.push { cls := .type "list_iterator", data := .fields #[.ref p, .int 0 0] }).objs.size = s2.heap.objs.size + 1 := by simp [Heap.push]
    have hb' : b = s2.heap.objs.size ∨ b = p := by simpa using hb
    show b < (s2.heap.push _).objs.size
    rw [hsz]
    rcases hb' with rfl | rfl
    · exact Nat.lt_succ_self _
    · obtain ⟨o, ho, _⟩ := pl.isList
      exact Nat.lt_succ_of_lt (Heap.lt_size ho)
  · intro i v hP
    have hP : its[i]? = some v := hP
    rw [ei, List.getElem?_map] at hP
    cases e : as[i]? with
    | none => rw [e] at hP; cases hP
    | some a => rw [e] at hP; cases hP; simp [e]
  · intro j lj
    obtain ⟨a, xs, m, e1, e2, r', e3⟩ := hit j (by omega)
    simp only [e1, Option.getD_some]
    exact ⟨new _ _ e3, m, Heap.get?_push_of_some _ e3⟩
  · omega
  · rw [hlen, ← wl]; exact hz
  · intro T c' h' tk eT lT k
    rw [hlen] at eT
    have f := I2.fpOk (H' := H2) (b := s2.heap.objs.size) (Nat.le_refl _) (I2.hok.fresh (Nat.le_refl _))
    have lT' : s2.heap.objs.size ≤ T := Nat.le_trans (by simp [Heap.push]) lT
    exact ⟨.ref T, _, I2.laid (a := T) (o := .lst xss.flatten) (h' := h') (t' := tk) (fun b u e => k b u (new _ _ e) (Heap.get?_push_of_some _ e)) lT' ⟨hz, _, c', vf, eT⟩, rfl, q T (I2.hok.fresh lT')⟩
end
end L2
set_option Elab.async false
set_option linter.all false
set_option maxRecDepth 100000
set_option maxHeartbeats 4000000




namespace Prf
open PySem L2
def top (i : Nat) : Stmt := PySem.Challenge.pw_fewnotes_k85_whole_swapped_numbers_stay.main.body.getD i (.Pass ⟨0, 0, 0, 0⟩)
abbrev s_cell_of : Stmt := top 8
abbrev s_is_whole : Stmt := top 10
abbrev s_is_below : Stmt := top 11
abbrev s_Hand_init : Stmt := inClass (top 15) 0
abbrev s_Hand_lead_on : Stmt := inClass (top 15) 3
abbrev s_Hand_do : Stmt := inClass (top 15) 4
abbrev s_Hand_holds : Stmt := inClass (top 15) 5
abbrev s_Hand_take : Stmt := inClass (top 15) 6
abbrev s_Hand_value_of : Stmt := inClass (top 15) 7
abbrev s_Works_init : Stmt := inClass (top 16) 0
abbrev s_Works_turn : Stmt := inClass (top 16) 1
abbrev s_Works_touch_by : Stmt := inClass (top 16) 2
abbrev s_Works_cells : Stmt := inClass (top 16) 3
abbrev s_Works_boxes : Stmt := inClass (top 16) 4
abbrev s_Works_how : Stmt := inClass (top 16) 6
abbrev s_Works_hand_of : Stmt := inClass (top 16) 9
abbrev s_check_numbers : Stmt := top 17
abbrev s_Lreel : Stmt := top 19
abbrev s_Ldraw : Stmt := top 20
abbrev s_Lrow : Stmt := top 21
abbrev s_Lhand : Stmt := top 22
abbrev s_Lboxes : Stmt := top 23
abbrev s_Lsorted : Stmt := top 24
abbrev s_Lright : Stmt := top 25
abbrev s_law : Stmt := top 26
structure Blt (mg : Str → Option Value) : Prop where
  b_all : mg "all" = none
  b_bool : mg "bool" = none
  b_int : mg "int" = none
  b_isinstance : mg "isinstance" = none
  b_len : mg "len" = none
  b_list : mg "list" = none
  b_max : mg "max" = none
  b_min : mg "min" = none
  b_range : mg "range" = none
  b_sorted : mg "sorted" = none
  b_str : mg "str" = none
  b_sum : mg "sum" = none
  b_tuple : mg "tuple" = none
  b_zip : mg "zip" = none
theorem sc_cell_of : FnScope ["row"] ["row"] (defScope s_cell_of) := ⟨rfl, rfl, rfl, by decide +kernel, rfl, by decide +kernel, by decide +kernel⟩
theorem sc_is_whole : FnScope ["value"] ["value"] (defScope s_is_whole) := ⟨rfl, rfl, rfl, by decide +kernel, rfl, by decide +kernel, by decide +kernel⟩
theorem sc_is_below : FnScope ["value", "count"] ["value", "count"] (defScope s_is_below) := ⟨rfl, rfl, rfl, by decide +kernel, rfl, by decide +kernel, by decide +kernel⟩
theorem sc_Hand_init : FnScope ["self", "rows"] ["self", "rows"] (defScope s_Hand_init) := ⟨rfl, rfl, rfl, by decide +kernel, rfl, by decide +kernel, by decide +kernel⟩
theorem sc_Hand_lead_on : FnScope ["self", "done"] ["self"] (defScope s_Hand_lead_on) := ⟨rfl, rfl, rfl, by decide +kernel, rfl, by decide +kernel, by decide +kernel⟩
theorem sc_Hand_do : FnScope ["self", "row"] ["self", "row"] (defScope s_Hand_do) := ⟨rfl, rfl, rfl, by decide +kernel, rfl, by decide +kernel, by decide +kernel⟩
theorem sc_Hand_holds : FnScope ["self", "row", "left", "right"] ["self", "row"] (defScope s_Hand_holds) := ⟨rfl, rfl, rfl, by decide +kernel, rfl, by decide +kernel, by decide +kernel⟩
theorem sc_Hand_take : FnScope ["self", "box", "number"] ["self", "box", "number"] (defScope s_Hand_take) := ⟨rfl, rfl, rfl, by decide +kernel, rfl, by decide +kernel, by decide +kernel⟩
theorem sc_Hand_value_of : FnScope ["self", "part", "left", "right"] ["self", "part"] (defScope s_Hand_value_of) := ⟨rfl, rfl, rfl, by decide +kernel, rfl, by decide +kernel, by decide +kernel⟩
theorem sc_Works_init : FnScope ["self", "program", "cells", "one"] ["self", "program", "cells"] (defScope s_Works_init) := ⟨rfl, rfl, rfl, by decide +kernel, rfl, by decide +kernel, by decide +kernel⟩
theorem sc_Works_turn : FnScope ["self", "hand", "one", "touch"] ["self", "hand"] (defScope s_Works_turn) := ⟨rfl, rfl, rfl, by decide +kernel, rfl, by decide +kernel, by decide +kernel⟩
theorem sc_Works_touch_by : FnScope ["self", "one", "row", "cell", "read", "written"] ["self", "one"] (defScope s_Works_touch_by) := ⟨rfl, rfl, rfl, by decide +kernel, rfl, by decide +kernel, by decide +kernel⟩
theorem sc_Works_cells : FnScope ["self"] ["self"] (defScope s_Works_cells) := ⟨rfl, rfl, rfl, by decide +kernel, rfl, by decide +kernel, by decide +kernel⟩
theorem sc_Works_boxes : FnScope ["self", "hand"] ["self", "hand"] (defScope s_Works_boxes) := ⟨rfl, rfl, rfl, by decide +kernel, rfl, by decide +kernel, by decide +kernel⟩
theorem sc_Works_how : FnScope ["self", "hand"] ["self", "hand"] (defScope s_Works_how) := ⟨rfl, rfl, rfl, by decide +kernel, rfl, by decide +kernel, by decide +kernel⟩
theorem sc_Works_hand_of : FnScope ["self", "hand"] ["self", "hand"] (defScope s_Works_hand_of) := ⟨rfl, rfl, rfl, by decide +kernel, rfl, by decide +kernel, by decide +kernel⟩
theorem sc_check_numbers : FnScope ["cells", "count"] ["cells", "count"] (defScope s_check_numbers) := ⟨rfl, rfl, rfl, by decide +kernel, rfl, by decide +kernel, by decide +kernel⟩
theorem sc_Lreel : FnScope ["script", "stir", "cell", "great"] ["script"] (defScope s_Lreel) := ⟨rfl, rfl, rfl, by decide +kernel, rfl, by decide +kernel, by decide +kernel⟩
theorem sc_Ldraw : FnScope ["reel", "many", "rest", "told", "stir"] ["reel", "many"] (defScope s_Ldraw) := ⟨rfl, rfl, rfl, by decide +kernel, rfl, by decide +kernel, by decide +kernel⟩
theorem sc_Lrow : FnScope ["reel", "at", "size", "many", "kind", "box", "to"] ["reel", "at", "size", "many"] (defScope s_Lrow) := ⟨rfl, rfl, rfl, by decide +kernel, rfl, by decide +kernel, by decide +kernel⟩
theorem sc_Lhand : FnScope ["reel", "many", "rows", "boxes", "k", "box", "size"] ["reel", "many"] (defScope s_Lhand) := ⟨rfl, rfl, rfl, by decide +kernel, rfl, by decide +kernel, by decide +kernel⟩
theorem sc_Lboxes : FnScope ["one", "many"] ["one", "many"] (defScope s_Lboxes) := ⟨rfl, rfl, rfl, by decide +kernel, rfl, by decide +kernel, by decide +kernel⟩
theorem sc_Lsorted : FnScope ["numbers", "boxes"] ["numbers", "boxes"] (defScope s_Lsorted) := ⟨rfl, rfl, rfl, by decide +kernel, rfl, by decide +kernel, by decide +kernel⟩
theorem sc_Lright : FnScope ["told", "before", "after", "k", "kind", "cell", "had", "put", "due", "unlike"] ["told", "before", "after", "k"] (defScope s_Lright) := ⟨rfl, rfl, rfl, by decide +kernel, rfl, by decide +kernel, by decide +kernel⟩
theorem sc_law : FnScope ["script", "reel", "many", "hands", "numbers", "one", "before", "due", "turn", "waiting", "k", "told", "after"] ["script"] (defScope s_law) := ⟨rfl, rfl, rfl, by decide +kernel, rfl, by decide +kernel, by decide +kernel⟩
structure Cl_Hand (K : PySem.W.Frag) (C : Addr) : Prop where
  cls : Cls K C
  n_rows : NoAttr K C "rows"
  n_at : NoAttr K C "at"
  n_in_boxes : NoAttr K C "in_boxes"
  n_sayings : NoAttr K C "sayings"
  n_state : NoAttr K C "state"
structure Cl_Works (K : PySem.W.Frag) (C : Addr) : Prop where
  cls : Cls K C
  n_program : NoAttr K C "program"
  n_numbers : NoAttr K C "numbers"
  n_hands : NoAttr K C "hands"
  n_turns : NoAttr K C "turns"
section
variable {P : Program} {w : World} {K : PySem.W.Frag} {mg : Str → Option Value} {base : Heap}
theorem fm_filt {α β : Type} (p : α → Bool) (g : α → β) : ∀ l : List α, (List.range l.length).filterMap (fun i => (l[i]?).bind fun x => if p x then some (g x) else none) = (l.filter p).map g
  | [] => rfl
  | x :: l => by
    have ih := fm_filt p g l
    rw [List.length_cons, List.range_succ_eq_map, List.filterMap_cons, List.filterMap_map, List.filter_cons]
    cases q : p x
    · simp [q]; exact ih
    · simp [q]; exact ih
theorem eqv_int (x y : Int) : PyData.eqv (.int x) (.int y) = decide (x = y) := by
  simp only [PyData.eqv]
  rw [Bool.eq_iff_iff]
  simp
theorem dat_ints {H : Hp} {a : Addr} {ns : List Int} (h : H a = some (.lst (ns.map V.int))) : Dat H (.ref a) (.list (ns.map PyData.int)) := dat_list h (Dats.ints ns)
theorem shaped_ints (ns : List Int) : SeqAt.shaped (.list (ns.map PyData.int)) = true := shaped_list PyData.int 0 (by decide) (fun _ _ => rfl) (fun _ _ => by show 0 ≤ 0; decide)

def gI (cs : List Int) (h : Int) : Int := (cs[h.toNat]?).getD 0
theorem atI_gI {cs : List Int} {h : Int} (h0 : 0 ≤ h) (h1 : h < cs.length) : atI (cs.map V.int) h = some (.int (gI cs h)) := by
  obtain ⟨m, rfl⟩ := Int.eq_ofNat_of_zero_le h0
  have : m < cs.length := by omega
  refine atI_nat ?_
  simp [gI, this]
/-! ### the reel of programs -/
def M127 : Int := 170141183460469231731687303715884105727
theorem bits127 : Builtin.Int.intBits M127 ≤ 127 := PySem.intBits_le_iff.mpr (by decide)
theorem bits_lt {t : Int} (h0 : 0 ≤ t) (h1 : t < M127) : Builtin.Int.intBits t ≤ 127 := PySem.intBits_le_of_natAbs (y := M127) (by unfold M127 at h1 ⊢; omega) bits127
theorem mul_ok {t : Int} (h0 : 0 ≤ t) (h1 : t < M127) : IntMulOk t t := IntMulOk.of_le (bits_lt h0 h1) (bits_lt h0 h1) (by omega)
def ReelP (H : Hp) (r : Addr) : Prop := ∃ (g c : Addr) (gs cs : List Int) (p t : Int), H r = some (.lst [.ref g, .ref c, .int p, .int t]) ∧ H g = some (.lst (gs.map V.int)) ∧ H c = some (.lst (cs.map V.int)) ∧ 0 < cs.length ∧ cs.length ≤ 100 ∧ gs.length ≤ 100 ∧ (∀ x ∈ gs, 0 ≤ x) ∧ 0 ≤ p ∧ 0 ≤ t ∧ t < M127 ∧ g ≠ r ∧ c ≠ r
theorem ReelP.keep {H H' : Hp} {r : Addr} (h : ReelP H r) (k : Same H H') : ReelP H' r := by
  obtain ⟨g, c, gs, cs, p, t, e1, e2, e3, q⟩ := h
  exact ⟨g, c, gs, cs, p, t, k _ _ e1, k _ _ e2, k _ _ e3, q⟩
theorem ReelP.ne {H : Hp} {r p : Addr} (h : ReelP H r) (hp : H p = none) : p ≠ r := by
  obtain ⟨g, c, gs, cs, _, t, e1, _⟩ := h
  exact (ne_of_none e1 hp).symm
theorem ReelP.at {H : Hp} {r : Addr} (h : ReelP H r) : ∃ o, H r = some o := by
  obtain ⟨g, c, gs, cs, p, t, e1, _⟩ := h
  exact ⟨_, e1⟩
theorem ReelP.tups {H H' : Hp} {r : Addr} (h : ReelP H r) (k : Kp r H H') : ∀ a xs, H a = some (HO.tup xs) → H' a = some (HO.tup xs) := by
  obtain ⟨g, c, gs, cs, p, t, e1, _⟩ := h
  exact k.tups e1
/-- not a list of the reel's own -/
def Off (H : Hp) (r x : Addr) : Prop := ∀ (g c : Addr) (u v : V), H r = some (.lst [.ref g, .ref c, u, v]) → x ≠ g ∧ x ≠ c
/-- the reel alone is changed, and what is not its own stays so -/
def KR (r : Addr) (H H' : Hp) : Prop := Kp r H H' ∧ ∀ x o, H x = some o → x ≠ r → Off H r x → Off H' r x
theorem KR.trans {r : Addr} {H H1 H2 : Hp} (a : KR r H H1) (b : KR r H1 H2) : KR r H H2 := ⟨a.1.trans b.1, fun x o e n f => b.2 x o (a.1 _ _ e n) n (a.2 x o e n f)⟩
theorem KR.tups {r : Addr} {H H' : Hp} (k : KR r H H') (R : ReelP H r) : ∀ a xs, H a = some (HO.tup xs) → H' a = some (HO.tup xs) := R.tups k.1
theorem KR.same {r : Addr} {H H' : Hp} (R : ReelP H r) (k : Same H H') : KR r H H' := ⟨.of_same k, fun x o e n f g c u v e2 => by
  obtain ⟨g', c', gs, cs, p, t, e1, _⟩ := R
  rw [k _ _ e1] at e2
  cases e2
  exact f _ _ _ _ e1⟩
theorem ReelP.off {H : Hp} {r x : Addr} (R : ReelP H r) (hx : H x = none) : Off H r x := fun g c u v e => by
  obtain ⟨g', c', gs, cs, p, t, e1, e2, e3, _⟩ := R
  rw [e1] at e
  cases e
  exact ⟨fun z => (by rw [z, e2] at hx; cases hx), fun z => (by rw [z, e3] at hx; cases hx)⟩
theorem Off.same {H H' : Hp} {r x : Addr} (R : ReelP H r) (k : Same H H') (f : Off H r x) : Off H' r x := fun g c u v e2 => by
  obtain ⟨g', c', gs, cs, p, t, e1, _⟩ := R
  rw [k _ _ e1] at e2
  cases e2
  exact f _ _ _ _ e1
theorem ReelP.set {H : Hp} {r x : Addr} {o : HO} (R : ReelP H r) (n : x ≠ r) (f : Off H r x) : ReelP (upd H x o) r := by
  obtain ⟨g, c, gs, cs, p, t, e1, e2, e3, q⟩ := R
  obtain ⟨n1, n2⟩ := f _ _ _ _ e1
  exact ⟨g, c, gs, cs, p, t, by rw [upd_ne n.symm]; exact e1, by rw [upd_ne n1.symm]; exact e2, by rw [upd_ne n2.symm]; exact e3, q⟩
theorem Off.set {H : Hp} {r x y : Addr} {o : HO} (n : x ≠ r) (f : Off H r y) : Off (upd H x o) r y := fun g c u v e => f g c u v (by rw [upd_ne n.symm] at e; exact e)
theorem Kp.new {H H' : Hp} {r p : Addr} (k : Kp r H H') (hp : H' p = none) (hr : ∃ o, H' r = some o) : H p = none := by
  cases e : H p with
  | none => rfl
  | some o =>
    by_cases n : p = r
    · subst n
      obtain ⟨o', ho⟩ := hr
      rw [hp] at ho
      cases ho
    · rw [k _ _ e n] at hp
      cases hp
theorem cut_all {ns : List Int} (h : ns.length ≤ 63) : cutV (ns.map V.int) none (some 63) = ns.map V.int := by
  unfold cutV
  rw [HT.sIx_none, show (some (63 : Int)) = some ((63 : Nat) : Int) from rfl, HT.sIx_nat, List.length_map, List.drop_zero, Nat.min_eq_right h, Nat.sub_zero, List.take_of_length_le (by simp)]
def spReelP (K : PySem.W.Frag) : Sp := fun vs H Q _ => ∃ (a : Addr) (ns : List Int), vs = [.ref a] ∧ SqL K H a (ns.map V.int) ∧ ns.length ≤ 63 ∧ ∀ (r : Addr) (H' : Hp), H r = none → ReelP H' r → Same H H' → Q (.ref r) H'
theorem ok_reelP {f : Addr} {fd : FuncData} (F : Fun K "_law_reel" "_law_reel" s_Lreel f fd) (Bt : Blt mg) : FnOk P w K mg base CX0 1 f fd ["script"] (spReelP K) := by
  refine F.ok sc_Lreel (fun vs H Q E h => ?_) (fun cdv A outer s H vs Q E hr h => ?_)
  · obtain ⟨a, ns, rfl, _⟩ := h
    rfl
  · obtain ⟨a, ns, rfl, hs, hlen, k⟩ := h
    refine ⟨_, (pss_cons (ps_set (i := 1) sc_Lreel.nd rfl (Or.inl rfl) (pe_op op_pow pe_int pe_int))
      (pss_cons (ps_for PassesOwn.never rfl (pi_listK (K := K) rfl (pe_slice (sl_listK (K := K) rfl) (pv 0) po_none (po_some pe_int))) (pg_name (i := 2) sc_Lreel.nd rfl (Or.inl rfl))
      (pss_one (ps_set (i := 1) sc_Lreel.nd rfl (Or.inl rfl) (pe_op op_mod (pe_op op_add (pe_op op_add (pe_op op_mulB (pv 1) (pv 1)) (pe_op op_mod (pv 2) pe_int)) pe_int) (pe_op op_sub (pe_op op_mul (pe_op op_pow pe_int pe_int) (pe_op op_pow pe_int pe_int)) pe_int)))))
      (pss_cons (ps_setC (i := 3) rfl sc_Lreel.nd rfl (Or.inl rfl) (N := ["cell"]) (own := ["cell"]) (caps := []) (CompScope.of (by kernel_rfl)) (pi_listK (K := K) rfl (pe_slice (sl_listK (K := K) rfl) (pv 0) po_none (po_some pe_int))) (fun _ _ _ _ => (pg_name (i := 0) (show List.Nodup (["cell"] : List Str) by decide +kernel) rfl (Or.inl rfl))) (fun _ _ _ _ => (pts_one (pt_cmpR op_ge (pv 0) (pe_op op_pow pe_int pe_int) (nomark _)))) (fun _ _ _ _ => (pe_op op_sub (pv 0) (pe_op op_pow pe_int pe_int))))
      (pss_one (ps_ret (pe_lst (pa_cons (pv 3) (pa_cons (pe_op op_cat (pe_comp rfl (N := ["cell"]) (own := ["cell"]) (caps := []) (CompScope.of (by kernel_rfl)) (pi_listK (K := K) rfl (pe_slice (sl_listK (K := K) rfl) (pv 0) po_none (po_some pe_int))) (fun _ _ _ _ => (pg_name (i := 0) (show List.Nodup (["cell"] : List Str) by decide +kernel) rfl (Or.inl rfl))) (fun _ _ _ _ => pts_nil) (fun _ _ _ _ => (pe_op op_mod (pv 0) pe_int))) (pe_lst (pa_cons pe_int pa_nil))) (pa_cons pe_int (pa_cons (pv 1) pa_nil)))))))))), ?_⟩
    refine ⟨_, _, rfl, rfl, (by show CPow 3 60; exact ⟨by decide, by decide, by decide⟩), ?_⟩
    refine ⟨_, rfl, _, rfl, _, _, rfl, hs, fun p hp => ?_⟩
    rw [cut_all hlen]
    have s1 := same_new (o := HO.lst (ns.map V.int)) hp
    have cp1 : CPow 2 64 := ⟨by decide, by decide, by decide⟩
    have cp2 : CPow 2 63 := ⟨by decide, by decide, by decide⟩
    have cp3 : CPow 10 18 := ⟨by decide, by decide, by decide⟩
    refine ⟨p, rfl, ⟨_, SqL.of upd_same⟩, for_list (K := K) (a := p) (xs := ns.map V.int) (fun i σ H2 => ∃ (t : Int) (v : Option V), σ = [some (.ref a), some (.int t), v, none] ∧ H2 = upd H p (.lst (ns.map V.int)) ∧ 0 ≤ t ∧ t < M127)
      ⟨_, none, rfl, rfl, by decide, by decide⟩ (fun i σ H2 _ ⟨_, _, _, e, _⟩ => by rw [e]; exact SqL.of upd_same) ?_ ?_⟩
    · rintro i y σ H2 hi ⟨t, v, rfl, rfl, t0, t1⟩
      obtain ⟨z, rfl⟩ : ∃ z, y = V.int z := by
        rw [List.getElem?_map] at hi
        cases e : ns[i]? with
        | none => rw [e] at hi; cases hi
        | some z => rw [e] at hi; exact ⟨z, (Option.some.inj hi).symm⟩
      refine ⟨_, rfl, _, rfl, _, _, rfl, rfl, mul_ok t0 t1, _, rfl, _, _, rfl, rfl, (by show (0 : Int) < 1000000000000000003; decide), _, _, rfl, rfl, _, _, rfl, rfl, ?_⟩
      refine ⟨_, _, rfl, rfl, cp1, _, _, rfl, rfl, cp2, _, _, rfl, rfl, .inr ⟨by decide, by decide⟩, _, _, rfl, rfl, _, _, rfl, rfl, (by show (0 : Int) < 2 ^ Int.toNat 64 * 2 ^ Int.toNat 63 - 1; decide), ?_⟩
      refine ⟨_, _, rfl, rfl, ?_, ?_⟩
      · exact Int.emod_nonneg _ (by decide)
      · exact Int.emod_lt_of_pos _ (by decide)
    · rintro σ H2 ⟨t, v, rfl, rfl, t0, t1⟩
      have hs1 := s1.seq hs
      refine ⟨_, rfl, _, rfl, _, _, rfl, hs1, fun p2 hp2 => ?_⟩
      rw [cut_all hlen]
      have s2 := same_new (o := HO.lst (ns.map V.int)) hp2
      refine ⟨p2, rfl, ⟨_, SqL.of upd_same⟩, fun D hD => ?_⟩
      refine comp_val (K := K) (fun i => (ns[i]?).bind fun z => if decide (z ≥ 10 ^ (18 : Int).toNat) then some (V.int (z - 10 ^ (18 : Int).toNat)) else none) hD (SqL.of upd_same) (by rw [List.length_map]; omega) (fun i v H3 G F hi s3 kG kF => ?_) (fun H3 s3 e3 => ?_)
      · rw [List.getElem?_map] at hi
        cases e : ns[i]? with
        | none => rw [e] at hi; cases hi
        | some z =>
          rw [e] at hi
          cases hi
          simp only [e, Option.bind_some] at kG kF
          refine ⟨_, rfl, _, _, rfl, rfl, cp3, _, _, rfl, rfl, _, rfl, ?_⟩
          refine ite2 (fun w => ?_) (fun w => ?_)
          · exact ⟨_, rfl, _, _, rfl, rfl, cp3, _, _, rfl, rfl, kF _ H3 (Same.refl _) (by rw [if_pos w])⟩
          · exact kG H3 (Same.refl _) (by rw [if_neg w])
      rw [List.length_map, fm_filt (fun z : Int => decide (z ≥ 10 ^ (18 : Int).toNat)) (fun z => V.int (z - 10 ^ (18 : Int).toNat))] at e3
      have e3' : H3 D = some (.lst (((ns.filter fun z => decide (z ≥ 10 ^ (18 : Int).toNat)).map fun z => z - 10 ^ (18 : Int).toNat).map V.int)) := by rw [e3, List.map_map]; rfl
      have s13 := (s1.trans s2).trans s3
      refine ⟨_, rfl, _, rfl, _, rfl, _, _, rfl, s13.seq hs, fun p3 hp3 => ?_⟩
      rw [cut_all hlen]
      have s4 := same_new (o := HO.lst (ns.map V.int)) hp3
      refine ⟨p3, rfl, ⟨_, SqL.of upd_same⟩, fun D2 hD2 => ?_⟩
      refine comp_val (K := K) (fun i => (ns[i]?).map fun z => V.int (z % 1000003)) hD2 (SqL.of upd_same) (by rw [List.length_map]; omega) (fun i v H5 G F hi s5 kG kF => ?_) (fun H5 s5 e5 => ?_)
      · rw [List.getElem?_map] at hi
        cases e : ns[i]? with
        | none => rw [e] at hi; cases hi
        | some z =>
          rw [e] at hi
          cases hi
          exact ⟨_, rfl, _, _, rfl, rfl, (by show (0 : Int) < 1000003; decide), kF _ H5 (Same.refl _) (by rw [e]; rfl)⟩
      rw [List.length_map, fm_some] at e5
      refine ⟨(by show 1 ≤ sizeLine; decide), fun p4 hp4 => ?_⟩
      have s6 := same_new (o := HO.lst [V.int 41]) hp4
      refine ⟨D2, p4, _, _, rfl, rfl, s6 _ _ e5, upd_same, by rw [sizeLine_eq, List.length_map]; simp only [List.length_singleton]; omega, fun c hc => ?_⟩
      have s7 := same_new (o := HO.lst (ns.map (fun z => V.int (z % 1000003)) ++ [V.int 41])) hc
      have s47 := (s4.trans s5).trans (s6.trans s7)
      refine ⟨_, rfl, (by show 4 ≤ sizeLine; decide), fun r hr' => ?_⟩
      have s8 := same_new (o := HO.lst [V.ref D, V.ref c, V.int 0, V.int t]) hr'
      have eD := s47 _ _ e3'
      have nDr : D ≠ r := ne_of_none eD hr'
      have ncr : c ≠ r := ne_of_none upd_same hr'
      have fl : (ns.filter fun z => decide (z ≥ 10 ^ (18 : Int).toNat)).length ≤ ns.length := List.length_filter_le _ _
      refine k r _ ((s13.trans s47).free hr') ⟨D, c, _, ns.map (· % 1000003) ++ [41], 0, t, upd_same, s8 _ _ eD, ?_, by simp, by simp; omega, by rw [List.length_map]; omega, fun x hx => ?_, by decide, t0, t1, nDr, ncr⟩ ((s13.trans s47).trans s8)
      · refine s8 _ _ ?_
        rw [upd_same, List.map_append, List.map_map]; rfl
      · obtain ⟨z, hz, rfl⟩ := List.mem_map.mp hx
        have := of_decide_eq_true (List.mem_filter.mp hz).2
        omega
def spDrawP (K : PySem.W.Frag) : Sp := fun vs H Q _ => ∃ (r : Addr) (m : Int), vs = [.ref r, .int m] ∧ ReelP H r ∧ 0 < m ∧ m < 1329227995784915872903807060280344576 ∧ ∀ (z : Int) (H' : Hp), 0 ≤ z → z < m → ReelP H' r → KR r H H' → Q (.int z) H'
theorem ok_drawP {f : Addr} {fd : FuncData} (F : Fun K "_law_draw" "_law_draw" s_Ldraw f fd) (Bt : Blt mg) : FnOk P w K mg base CX0 1 f fd ["reel", "many"] (spDrawP K) := by
  refine F.ok sc_Ldraw (fun vs H Q E h => ?_) (fun cdv A outer s H vs Q E hr h => ?_)
  · obtain ⟨r, m, rfl, _⟩ := h
    rfl
  · obtain ⟨r, m, rfl, ⟨g, c, gs, cs, p, t, hR, hG, hC, c0, c1, g1, gpos, p0, t0, t1, ngr, ncr⟩, m0, m1, k⟩ := h
    have hu64 := hr.units
    refine ⟨_, (pss_cons (ps_if (pt_cmpR (op_neDK (K := K) rfl hu64) (pe_ix (ix_listK (K := K) rfl) (pv 0) pe_int (fun _ _ => rfl)) (pe_lst pa_nil) (nomark _)) (pss_cons (ps_set (i := 2) sc_Ldraw.nd rfl (Or.inl rfl) (pe_ix (ix_listK (K := K) rfl) (pe_ix (ix_listK (K := K) rfl) (pv 0) pe_int (fun _ _ => rfl)) pe_int (fun _ _ => rfl)))
      (pss_cons (ps_asg (pe_op op_cat (pe_op op_rep (pe_lst (pa_cons (pe_op op_fdivB (pv 2) (pv 1)) pa_nil)) (pe_callTy call_int1 (by rfl) Bt.b_int bt_int (pa_cons (pe_cmpR op_ge (pv 2) (pv 1) (nomark _)) pa_nil))) (pe_slice (sl_listK (K := K) rfl) (pe_ix (ix_listK (K := K) rfl) (pv 0) pe_int (fun _ _ => rfl)) (po_some pe_int) po_none)) (pg_sub (pv 0) pe_int set_list))
      (pss_one (ps_ret (pe_op op_mod (pv 2) (pv 1)))))) pss_nil)
      (pss_cons (ps_asg (pe_op op_add (pe_ix (ix_listK (K := K) rfl) (pv 0) pe_int (fun _ _ => rfl)) pe_int) (pg_sub (pv 0) pe_int set_list))
      (pss_cons (ps_set (i := 3) sc_Ldraw.nd rfl (Or.inl rfl) (pe_ix (ix_listK (K := K) rfl) (pe_ix (ix_listK (K := K) rfl) (pv 0) pe_int (fun _ _ => rfl)) (pe_op op_mod (pe_ix (ix_listK (K := K) rfl) (pv 0) pe_int (fun _ _ => rfl)) (pe_callB (call_len_seqK (K := K) rfl) (by rfl) Bt.b_len bt_len (pa_cons (pe_ix (ix_listK (K := K) rfl) (pv 0) pe_int (fun _ _ => rfl)) pa_nil))) (fun _ _ => rfl)))
      (pss_cons (ps_set (i := 4) sc_Ldraw.nd rfl (Or.inl rfl) (pe_op op_add (pe_op op_add (pe_op op_mulB (pe_ix (ix_listK (K := K) rfl) (pv 0) pe_int (fun _ _ => rfl)) (pe_ix (ix_listK (K := K) rfl) (pv 0) pe_int (fun _ _ => rfl))) (pe_op op_mul (pe_op op_add (pv 3) pe_int) pe_int)) (pe_op op_mul (pe_ix (ix_listK (K := K) rfl) (pv 0) pe_int (fun _ _ => rfl)) pe_int)))
      (pss_cons (ps_asg (pe_op op_mod (pv 4) (pe_op op_sub (pe_op op_mul (pe_op op_pow pe_int pe_int) (pe_op op_pow pe_int pe_int)) pe_int)) (pg_sub (pv 0) pe_int set_list))
      (pss_one (ps_ret (pe_op op_mod (pe_op op_fdivB (pe_ix (ix_listK (K := K) rfl) (pv 0) pe_int (fun _ _ => rfl)) (pe_op op_pow pe_int pe_int)) (pv 1))))))))), ?_⟩
    refine ⟨_, rfl, _, _, _, _, rfl, rfl, SqL.of hR, rfl, (by show 0 ≤ sizeLine; decide), fun q hq => ?_⟩
    have s1 := same_new (o := HO.lst []) hq
    have hR1 := s1 _ _ hR
    have hG1 := s1 _ _ hG
    have hC1 := s1 _ _ hC
    refine ⟨_, _, dat_ints hG1, dat_ints (ns := []) upd_same, shaped_ints _, shaped_ints _, _, rfl, ?_⟩
    rw [if_pos rfl, eqv_list PyData.int eqv_int]
    refine ite2 (fun w => ?_) (fun _ => ?_)
    · have w : gs ≠ [] := by simpa using w
      obtain ⟨x, xs, rfl⟩ : ∃ x xs, gs = x :: xs := by
        cases gs with
        | nil => exact absurd rfl w
        | cons x xs => exact ⟨x, xs, rfl⟩
      have x0 := gpos x (by simp)
      refine ⟨_, rfl, _, _, _, _, rfl, rfl, SqL.of hR1, rfl, _, _, _, _, rfl, rfl, SqL.of hG1, (by show atI (V.int x :: xs.map V.int) 0 = some (V.int x); simp [atI, ixN]), ?_⟩
      refine ⟨_, rfl, _, rfl, _, _, rfl, rfl, ⟨m0, m1⟩, (by show 1 ≤ sizeLine; decide), fun q2 hq2 => ?_⟩
      have s2 := same_new (o := HO.lst [V.int (x / m)]) hq2
      refine ⟨_, rfl, _, rfl, _, _, rfl, rfl, Or.inr ⟨_, rfl, q2, _, _, rfl, rfl, upd_same, ?_, ?_, ?_, fun q3 hq3 => ?_⟩⟩
      · split <;> decide
      · split <;> decide
      · rw [sizeLine_eq]; split <;> simp
      have s3 := same_new (o := HO.lst (List.replicate (if decide (x ≥ m) = true then (1 : Int) else 0).toNat [V.int (x / m)]).flatten) hq3
      have s23 := s2.trans s3
      refine ⟨_, rfl, _, _, _, _, rfl, rfl, SqL.of (s23 _ _ hR1), rfl, _, rfl, g, _, rfl, SqL.of (s23 _ _ hG1), fun q4 hq4 => ?_⟩
      rw [show cutV ((x :: xs).map V.int) (some 1) none = xs.map V.int from cut_drop _ 1]
      have s4 := same_new (o := HO.lst (xs.map V.int)) hq4
      have fl : (List.replicate (if decide (x ≥ m) = true then (1 : Int) else 0).toNat [V.int (x / m)]).flatten.length ≤ 1 := by split <;> simp
      have xl : xs.length ≤ 100 := by have : (x :: xs).length ≤ 100 := g1; simp at this; omega
      refine ⟨q3, q4, _, _, rfl, rfl, s4 _ _ upd_same, upd_same, by rw [sizeLine_eq, List.length_map]; exact Nat.le_trans (Nat.add_le_add fl xl) (by decide), fun q5 hq5 => ?_⟩
      have s5 := same_new (o := HO.lst ((List.replicate (if decide (x ≥ m) = true then (1 : Int) else 0).toNat [V.int (x / m)]).flatten ++ xs.map V.int)) hq5
      have s25 := (s23.trans s4).trans s5
      have hR5 := s25 _ _ hR1
      refine ⟨_, rfl, _, _, _, _, rfl, rfl, hR5, rfl, ?_⟩
      have kr : Kp r (upd (upd (upd (upd (upd H q (HO.lst [])) q2 (HO.lst [V.int (x / m)])) q3 (HO.lst (List.replicate (if decide (x ≥ m) = true then (1 : Int) else 0).toNat [V.int (x / m)]).flatten)) q4 (HO.lst (xs.map V.int))) q5 (HO.lst ((List.replicate (if decide (x ≥ m) = true then (1 : Int) else 0).toNat [V.int (x / m)]).flatten ++ xs.map V.int))) _ := Kp.set (o := .lst [.ref q5, .ref c, .int p, .int t])
      have nq5 : q5 ≠ r := (ne_of_none ((s23.trans s4) _ _ hR1) hq5).symm
      have eq5 : (List.replicate (if decide (x ≥ m) = true then (1 : Int) else 0).toNat [V.int (x / m)]).flatten ++ xs.map V.int = ((if decide (x ≥ m) = true then [x / m] else []) ++ xs).map V.int := by
        split <;> simp
      refine ⟨_, rfl, _, rfl, _, _, rfl, rfl, m0, ?_⟩
      refine k _ _ (Int.emod_nonneg _ (by omega)) (Int.emod_lt_of_pos _ m0) ⟨q5, c, (if decide (x ≥ m) = true then [x / m] else []) ++ xs, cs, p, t, upd_same, ?_, kr _ _ (s25 _ _ hC1) ncr, c0, c1, ?_, fun y hy => ?_, p0, t0, t1, nq5, ncr⟩ ⟨(Kp.of_same (s1.trans s25)).trans kr, fun y o ey ny f g' c' u v e => by
        rw [upd_same] at e
        cases e
        exact ⟨ne_of_none ((s1.trans (s23.trans s4)) _ _ ey) hq5, (f _ _ _ _ hR).2⟩⟩
      · refine kr _ _ ?_ nq5
        rw [upd_same, eq5]
      · rw [List.length_append]
        have : (if decide (x ≥ m) = true then [x / m] else []).length ≤ 1 := by split <;> simp
        have : (x :: xs).length ≤ 100 := g1
        simp only [List.length_cons] at this
        omega
      · rcases List.mem_append.mp hy with hy | hy
        · split at hy
          · have : y = x / m := by simpa using hy
            rw [this]
            exact Int.ediv_nonneg x0 (by omega)
          · cases hy
        · exact gpos y (by simp [hy])
    · have cp1 : CPow 2 64 := ⟨by decide, by decide, by decide⟩
      have cp2 : CPow 2 63 := ⟨by decide, by decide, by decide⟩
      have cp4 : CPow 2 40 := ⟨by decide, by decide, by decide⟩
      refine ⟨_, rfl, _, _, _, _, rfl, rfl, SqL.of hR1, rfl, _, _, rfl, rfl, _, rfl, _, _, _, _, rfl, rfl, hR1, rfl, ?_⟩
      have kr : Kp r (upd H q (HO.lst [])) (upd (upd H q (HO.lst [])) r (.lst [.ref g, .ref c, .int (p + 1), .int t])) := Kp.set
      have hR2 : (upd (upd H q (HO.lst [])) r (.lst [.ref g, .ref c, .int (p + 1), .int t])) r = some (.lst [.ref g, .ref c, .int (p + 1), .int t]) := upd_same
      have hC2 := kr _ _ hC1 ncr
      have i0 : 0 ≤ (p + 1) % (cs.length : Int) := Int.emod_nonneg _ (by omega)
      have i1 : (p + 1) % (cs.length : Int) < cs.length := Int.emod_lt_of_pos _ (by omega)
      refine ⟨_, rfl, _, _, _, _, rfl, rfl, SqL.of hR2, rfl, _, rfl, _, _, _, _, rfl, rfl, SqL.of hR2, rfl, _, rfl, _, _, _, _, rfl, rfl, SqL.of hR2, rfl, c, _, rfl, .inl (SqL.of hC2), _, _, rfl, rfl, by rw [List.length_map]; omega, _, _, _, _, rfl, rfl, SqL.of hC2, by rw [List.length_map]; exact atI_gI i0 i1, ?_⟩
      generalize gI cs ((p + 1) % (cs.length : Int)) = told
      refine ⟨_, rfl, _, _, _, _, rfl, rfl, SqL.of hR2, rfl, _, rfl, _, _, _, _, rfl, rfl, SqL.of hR2, rfl, _, _, rfl, rfl, mul_ok t0 t1, _, rfl, _, _, rfl, rfl, _, _, rfl, rfl, .inr ⟨by decide, by decide⟩, _, _, rfl, rfl, _, rfl, _, _, _, _, rfl, rfl, SqL.of hR2, rfl, _, _, rfl, rfl, .inr ⟨by decide, by decide⟩, _, _, rfl, rfl, ?_⟩
      refine ⟨_, rfl, _, _, rfl, rfl, cp1, _, _, rfl, rfl, cp2, _, _, rfl, rfl, .inr ⟨by decide, by decide⟩, _, _, rfl, rfl, _, _, rfl, rfl, (by show (0 : Int) < 2 ^ Int.toNat 64 * 2 ^ Int.toNat 63 - 1; decide), _, rfl, _, _, _, _, rfl, rfl, hR2, rfl, ?_⟩
      refine ⟨_, rfl, _, _, _, _, rfl, rfl, SqL.of upd_same, rfl, _, _, rfl, rfl, cp4, _, _, rfl, rfl, ⟨by decide, by decide⟩, _, rfl, _, _, rfl, rfl, m0, ?_⟩
      refine k _ _ (Int.emod_nonneg _ (by omega)) (Int.emod_lt_of_pos _ m0) ⟨g, c, gs, cs, p + 1, _, upd_same, ?_, ?_, c0, c1, g1, gpos, by omega, Int.emod_nonneg _ (by decide), Int.emod_lt_of_pos _ (by decide), ngr, ncr⟩ ⟨((Kp.of_same s1).trans kr).trans Kp.set, fun y o ey ny f g' c' u v e => by
        rw [upd_same] at e
        cases e
        exact f _ _ _ _ hR⟩
      · rw [upd_ne ngr]; exact kr _ _ hG1 ngr
      · rw [upd_ne ncr]; exact hC2

/-! ### whole numbers -/
def inP (i : Int) (n : Nat) : Prop := 0 ≤ i ∧ i < (n : Int)
instance (i : Int) (n : Nat) : Decidable (inP i n) := inferInstanceAs (Decidable (_ ∧ _))
def spWh (K : PySem.W.Frag) : Sp := fun vs H Q _ => ∃ i : Int, vs = [.int i] ∧ Q (.bl true) H
theorem ok_is_whole {f : Addr} {fd : FuncData} (F : Fun K "is_whole" "is_whole" s_is_whole f fd) (Bt : Blt mg) : FnOk P w K mg base CX0 1 f fd ["value"] (spWh K) := by
  refine F.ok sc_is_whole (fun vs H Q E h => ?_) (fun cdv A outer s H vs Q E hr h => ?_)
  · obtain ⟨i, rfl, _⟩ := h
    rfl
  · obtain ⟨i, rfl, k⟩ := h
    refine ⟨_, (pss_one (ps_ret (pe_and (pe_callB (call_isiK (K := K) (cv := .ty "int") (c := .type "int") rfl rfl) (by rfl) Bt.b_isinstance bt_isinstance (pa_cons (pv 0) (pa_cons (pe_bltn (v := .ty "int") (by rfl) Bt.b_int bt_int rfl) pa_nil))) (pe_one (pe_not (pe_callB (call_isiK (K := K) (cv := .ty "bool") (c := .type "bool") rfl rfl) (by rfl) Bt.b_isinstance bt_isinstance (pa_cons (pv 0) (pa_cons (pe_bltn (v := .ty "bool") (by rfl) Bt.b_bool bt_bool rfl) pa_nil)))))))), ?_⟩
    refine ⟨_, rfl, _, _, true, rfl, .int i, isi_int_int K, true, rfl, ?_⟩
    refine iteT ?_
    exact ⟨_, rfl, _, _, false, rfl, .int i, isi_int_bool K, false, rfl, k⟩
def spBelow (K : PySem.W.Frag) : Sp := fun vs H Q _ => ∃ (i : Int) (n : Nat), vs = [.int i, .int n] ∧ Q (.bl (decide (inP i n))) H
theorem ok_is_below {f : Addr} {fd : FuncData} (F : Fun K "is_below" "is_below" s_is_below f fd) (F_is_whole : FnAt P w K mg base 1 "is_whole" ["value"] (spWh K)) : FnOk P w K mg base CX0 2 f fd ["value", "count"] (spBelow K) := by
  refine F.ok sc_is_below (fun vs H Q E h => ?_) (fun cdv A outer s H vs Q E hr h => ?_)
  · obtain ⟨i, n, rfl, _⟩ := h
    rfl
  · obtain ⟨i, n, rfl, k⟩ := h
    refine ⟨_, (pss_one (ps_ret (pe_and (pe_fn F_is_whole (hr.mono (by decide)) (by rfl) (pa_cons (pv 0) pa_nil)) (pe_one (pe_chain op_le op_lt pe_int (pv 0) (pv 1)))))), ?_⟩
    refine ⟨_, rfl, i, rfl, true, rfl, ?_⟩
    refine iteT ?_
    refine ⟨_, rfl, _, _, rfl, rfl, _, rfl, ?_⟩
    refine ite2 (fun h0 => ?_) (fun h0 => ?_)
    · refine ⟨_, rfl, _, _, rfl, rfl, ?_⟩
      have e : decide (inP i n) = decide (i < (n : Int)) := by
        have h0 := of_decide_eq_true h0
        rw [Bool.eq_iff_iff, decide_eq_true_iff, decide_eq_true_iff]
        exact ⟨fun z => z.2, fun z => ⟨h0, z⟩⟩
      show Q (.bl (decide (i < (n : Int)))) H
      rw [← e]
      exact k
    · have e : decide (inP i n) = false := decide_eq_false fun z => h0 (decide_eq_true z.1)
      rw [← e]
      exact k

/-! ### a hand, in general -/
def hF (r : Addr) (n : Int) (b sy : Addr) (st : Str) : List (Str × V) := [("rows", .ref r), ("at", .int n), ("in_boxes", .ref b), ("sayings", .ref sy), ("state", .str st)]
structure HAd where
  (h hx r b sy : Addr)
structure HdC (CH : Addr) (H : Hp) (A : HAd) (s : HandS) : Prop where
  h : H A.h = some (.ins CH A.hx (hF A.r s.pos A.b A.sy s.st))
  b : H A.b = some (.lst (s.bs.map V.int))
  y : H A.sy = some (.lst (s.sy.map V.int))
  nby : A.b ≠ A.sy
  bl : s.bs.length = 8
/-- the hand alone is changed -/
def KH (A : HAd) (H H' : Hp) : Prop := ∀ x o, H x = some o → x ≠ A.h → x ≠ A.b → x ≠ A.sy → H' x = some o
theorem KH.of_same {A : HAd} {H H' : Hp} (k : Same H H') : KH A H H' := fun x o e _ _ _ => k _ _ e
theorem KH.trans {A : HAd} {H H1 H2 : Hp} (a : KH A H H1) (b : KH A H1 H2) : KH A H H2 := fun x o e n1 n2 n3 => b x o (a x o e n1 n2 n3) n1 n2 n3
theorem KH.seth {A : HAd} {H : Hp} {o : HO} : KH A H (upd H A.h o) := fun x u e n _ _ => by rw [upd_ne n]; exact e
theorem KH.setb {A : HAd} {H : Hp} {o : HO} : KH A H (upd H A.b o) := fun x u e _ n _ => by rw [upd_ne n]; exact e
theorem KH.sety {A : HAd} {H : Hp} {o : HO} : KH A H (upd H A.sy o) := fun x u e _ _ n => by rw [upd_ne n]; exact e
theorem HdC.nhb {CH : Addr} {H : Hp} {A : HAd} {s : HandS} (c : HdC CH H A s) : A.h ≠ A.b := ne_of c.h c.b (by intro z; cases z)
theorem HdC.nhy {CH : Addr} {H : Hp} {A : HAd} {s : HandS} (c : HdC CH H A s) : A.h ≠ A.sy := ne_of c.h c.y (by intro z; cases z)
theorem HdC.same {CH : Addr} {H H' : Hp} {A : HAd} {s : HandS} (c : HdC CH H A s) (k : Same H H') : HdC CH H' A s := ⟨k _ _ c.h, k _ _ c.b, k _ _ c.y, c.nby, c.bl⟩
theorem HdC.tup {CH : Addr} {H H' : Hp} {A : HAd} {s : HandS} (c : HdC CH H A s) (k : KH A H H') : ∀ x xs, H x = some (.tup xs) → H' x = some (.tup xs) := fun x xs e => k _ _ e (ne_of e c.h (by intro z; cases z)) (ne_of e c.b (by intro z; cases z)) (ne_of e c.y (by intro z; cases z))
theorem HdC.seth {CH : Addr} {H : Hp} {A : HAd} {s : HandS} (c : HdC CH H A s) (n : Nat) (st : Str) : HdC CH (upd H A.h (.ins CH A.hx (hF A.r n A.b A.sy st))) A { s with pos := n, st := st } :=
  ⟨upd_same, by rw [upd_ne c.nhb.symm]; exact c.b, by rw [upd_ne c.nhy.symm]; exact c.y, c.nby, c.bl⟩
theorem HdC.setb {CH : Addr} {H : Hp} {A : HAd} {s : HandS} (c : HdC CH H A s) (bs : List Int) (l : bs.length = 8) : HdC CH (upd H A.b (.lst (bs.map V.int))) A { s with bs := bs } :=
  ⟨by rw [upd_ne c.nhb]; exact c.h, upd_same, by rw [upd_ne c.nby.symm]; exact c.y, c.nby, l⟩
theorem HdC.sety {CH : Addr} {H : Hp} {A : HAd} {s : HandS} (c : HdC CH H A s) (ys : List Int) : HdC CH (upd H A.sy (.lst (ys.map V.int))) A { s with sy := ys } :=
  ⟨by rw [upd_ne c.nhy]; exact c.h, by rw [upd_ne c.nby]; exact c.b, upd_same, c.nby, c.bl⟩
theorem put_at (r b sy : Addr) (n m : Int) (st : Str) : putF "at" (.int m) (hF r n b sy st) = hF r m b sy st := by rfl
theorem put_st (r b sy : Addr) (n : Int) (st st' : Str) : putF "state" (.str st') (hF r n b sy st) = hF r n b sy st' := by rfl
theorem fm_zero (n : Nat) : (List.range n).filterMap (fun _ => some (V.int 0)) = (List.replicate n 0).map V.int := by
  induction n with
  | zero => rfl
  | succ n ih => rw [fm_succ, ih, List.replicate_succ', List.map_append]; rfl
theorem kp_none {H H' : Hp} {o p : Addr} (h : Kp o H H') (ne : p ≠ o) (n : H' p = none) : H p = none := by
  cases e : H p with
  | none => rfl
  | some u => rw [h _ _ e ne] at n; cases n
theorem bx_at : ∀ b : Fin 8, Builtin.Str.occurrences (Str.ofString "abcdefgh") (bxS b.val) 0 (Str.ofString "abcdefgh").length 1 = [b.val] := by decide +kernel
theorem bx_at' {b : Nat} (h : b < 8) : Builtin.Str.occurrences (Str.ofString "abcdefgh") (bxS b) 0 (Str.ofString "abcdefgh").length 1 = [b] := bx_at ⟨b, h⟩
/-! made -/
def spHInit (CH : Addr) (K : PySem.W.Frag) : Sp := fun vs H Q _ => ∃ (a r dx : Addr), vs = [.ref a, .ref r] ∧ H a = some (.ins CH dx []) ∧ ∀ (b sy : Addr) (H' : Hp), H b = none → H sy = none → b ≠ sy →
  H' a = some (.ins CH dx (hF r 0 b sy "waits")) → H' b = some (.lst ((List.replicate 8 0).map V.int)) → H' sy = some (.lst []) → Kp a H H' → Q .non H'
theorem ok_hinit {C_Hand : Addr} {f : Addr} {fd : FuncData} (F : Fun K "__init__" "Hand.__init__" s_Hand_init f fd) (Z_Hand : Cl_Hand K C_Hand) (G_BOXES : Gv mg "BOXES" (.str "abcdefgh")) : FnOk P w K mg base CX0 1 f fd ["self", "rows"] (spHInit C_Hand K) := by
  refine F.ok sc_Hand_init (fun vs H Q E h => ?_) (fun cdv A outer s H vs Q E hr h => ?_)
  · obtain ⟨a, r, dx, rfl, _⟩ := h
    rfl
  · obtain ⟨a, r, dx, rfl, ha, k⟩ := h
    refine ⟨_, (pss_cons (ps_fldK (K := K) rfl (pv 0) (pv 1) rfl)
      (pss_cons (ps_fldK (K := K) rfl (pv 0) pe_int rfl)
      (pss_cons (ps_fldK (K := K) rfl (pv 0) (pe_comp rfl (N := ["box"]) (own := ["box"]) (caps := []) (CompScope.of (by kernel_rfl)) (pi_str (pe_glob (by rfl) G_BOXES.choose_spec.1 G_BOXES.choose_spec.2)) (fun _ _ _ _ => (pg_name (i := 0) (show List.Nodup (["box"] : List Str) by decide +kernel) rfl (Or.inl rfl))) (fun _ _ _ _ => pts_nil) (fun _ _ _ _ => pe_int)) rfl)
      (pss_cons (ps_fldK (K := K) rfl (pv 0) (pe_lst pa_nil) rfl)
      (pss_one (ps_fldK (K := K) rfl (pv 0) pe_str rfl)))))), ?_⟩
    refine ⟨_, rfl, _, rfl, a, C_Hand, dx, [], rfl, ha, Z_Hand.cls, Z_Hand.n_rows, by decide, ?_⟩
    refine ⟨_, rfl, a, C_Hand, dx, _, rfl, upd_same, Z_Hand.cls, Z_Hand.n_at, (by show 1 < 1000; decide), ?_⟩
    refine ⟨_, rfl, fun D hD => ?_⟩
    refine comp_valS (fun _ => some (.int 0)) hD (by decide) (fun i c H1 G F hi s1 kG kF => kF _ H1 (Same.refl _) rfl) (fun H1 s1 e1 => ?_)
    rw [fm_zero] at e1
    refine ⟨_, rfl, a, C_Hand, dx, _, rfl, s1 _ _ upd_same, Z_Hand.cls, Z_Hand.n_in_boxes, (by show 2 < 1000; decide), ?_⟩
    have naD : a ≠ D := ne_of_none upd_same hD
    refine ⟨(by show 0 ≤ sizeLine; decide), fun q hq => ?_⟩
    have naq : a ≠ q := ne_of_none upd_same hq
    refine ⟨_, rfl, a, C_Hand, dx, _, rfl, (by rw [upd_ne naq]; exact upd_same), Z_Hand.cls, Z_Hand.n_sayings, (by show 3 < 1000; decide), ?_⟩
    refine ⟨_, rfl, a, C_Hand, dx, _, rfl, upd_same, Z_Hand.cls, Z_Hand.n_state, (by show 4 < 1000; decide), ?_⟩
    have hD0 : H D = none := by rw [upd_ne naD.symm, upd_ne naD.symm] at hD; exact hD
    have nDq : D ≠ q := by
      intro e
      rw [← e, upd_ne naD.symm, e1] at hq
      cases hq
    have hq0 : H q = none := by
      rw [upd_ne naq.symm] at hq
      cases e : H q with
      | none => rfl
      | some o =>
        have := s1 q o (by rw [upd_ne naq.symm, upd_ne naq.symm]; exact e)
        rw [this] at hq
        cases hq
    refine k D q _ hD0 hq0 nDq ?_ ?_ ?_ ?_
    · rw [upd_same]; rfl
    · rw [upd_ne naD.symm, upd_ne naD.symm, upd_ne nDq, upd_ne naD.symm, e1]; rfl
    · rw [upd_ne naq.symm, upd_ne naq.symm, upd_same]
    · intro x o e n
      have nq : x ≠ q := ne_of_none e hq0
      rw [upd_ne n, upd_ne n, upd_ne nq, upd_ne n]
      exact s1 x o (by rw [upd_ne n, upd_ne n]; exact e)
theorem atI_0 {x : V} {l : List V} : atI (x :: l) 0 = some x := atI_nat (j := 0) rfl
theorem atI_2 {x y z : V} {l : List V} : atI (x :: y :: z :: l) 2 = some z := atI_nat (j := 2) rfl
/-! the cell of a row -/
def cellV (r : Rw) : V := if touch r then .int (cellR r) else .non
def spCellOf (K : PySem.W.Frag) : Sp := fun vs H Q _ => ∃ (v : V) (r : Rw), vs = [v] ∧ Dat H v (rwD r) ∧ ∀ H', Same H H' → Q (cellV r) H'
theorem ok_cellOf {f : Addr} {fd : FuncData} (F : Fun K "cell_of" "cell_of" s_cell_of f fd) : FnOk P w K mg base CX0 1 f fd ["row"] (spCellOf K) := by
  refine F.ok sc_cell_of (fun vs H Q E h => ?_) (fun cdv A outer s H vs Q E hr h => ?_)
  · obtain ⟨v, r, rfl, _⟩ := h
    rfl
  · obtain ⟨v, r, rfl, d, k⟩ := h
    obtain ⟨t, ws, rfl, ht, ps⟩ := at_rw d
    refine ⟨_, (pss_cons (ps_if (pt_cmpR op_eq (pe_ix (ix_tupK (K := K) rfl) (pv 0) pe_int (fun _ _ => rfl)) pe_str (nomark _)) (pss_one (ps_ret (pe_ix (ix_tupK (K := K) rfl) (pv 0) pe_int (fun _ _ => rfl)))) pss_nil)
      (pss_one (ps_ret (pe_ifExp (pt_cmpR (op_in_seqK (K := K) rfl) (pe_ix (ix_tupK (K := K) rfl) (pv 0) pe_int (fun _ _ => rfl)) (pe_tup (pa_cons pe_str (pa_cons pe_str pa_nil))) (by with_unfolding_all rfl)) (pe_ix (ix_tupK (K := K) rfl) (pv 0) pe_int (fun _ _ => rfl)) pe_non)))), ?_⟩
    have cs : (∃ c e, r = .store c e) ∨ ∃ (x : Str) (ys : List V), ws = .str x :: ys ∧ x ≠ Str.ofString "store" ∧ (x = Str.ofString "load" ∨ x = Str.ofString "swap" → ∃ y z, ys = y :: .int (cellR r) :: z ∧ touch r = true) ∧ (x ≠ Str.ofString "load" → x ≠ Str.ofString "swap" → touch r = false) := by
      cases r with
      | store c e => exact .inl ⟨c, e, rfl⟩
      | load b c => exact .inr ⟨_, _, ps, by decide +kernel, fun _ => ⟨_, _, rfl, rfl⟩, fun z => absurd rfl z⟩
      | swap b c e =>
        obtain ⟨x, e1, _⟩ := ps
        exact .inr ⟨_, _, e1, by decide +kernel, fun _ => ⟨_, _, rfl, rfl⟩, fun _ z => absurd rfl z⟩
      | lett b e =>
        obtain ⟨x, e1, _⟩ := ps
        exact .inr ⟨_, _, e1, by decide +kernel, fun z => absurd z (by decide +kernel), fun _ _ => rfl⟩
      | say e =>
        obtain ⟨x, e1, _⟩ := ps
        exact .inr ⟨_, _, e1, by decide +kernel, fun z => absurd z (by decide +kernel), fun _ _ => rfl⟩
      | go n => exact .inr ⟨_, _, ps, by decide +kernel, fun z => absurd z (by decide +kernel), fun _ _ => rfl⟩
      | unl q e f n =>
        obtain ⟨x, y, e1, _⟩ := ps
        exact .inr ⟨_, _, e1, by decide +kernel, fun z => absurd z (by decide +kernel), fun _ _ => rfl⟩
    rcases cs with ⟨c, e, rfl⟩ | ⟨x, ys, rfl, nx, h1, h2⟩
    · obtain ⟨x, rfl, _⟩ := ps
      refine ⟨_, rfl, _, _, _, _, rfl, rfl, SqT.of ht, rfl, rfl, _, rfl, ?_⟩
      refine ite2 (fun _ => ?_) (fun z => absurd (decide_eq_true rfl) z)
      exact ⟨_, rfl, _, _, _, _, rfl, rfl, SqT.of ht, rfl, k H (Same.refl _)⟩
    refine ⟨_, rfl, _, _, _, _, rfl, rfl, SqT.of ht, atI_0, rfl, _, rfl, ?_⟩
    refine ite2 (fun z => absurd (by simpa using of_decide_eq_true z) nx) (fun _ => ?_)
    refine ⟨_, rfl, _, _, _, _, rfl, rfl, SqT.of ht, atI_0, (by show 2 ≤ sizeLine; decide), fun p hp => ?_⟩
    have sp := same_new (o := HO.tup [V.str (Str.ofString "load"), V.str (Str.ofString "swap")]) hp
    refine ⟨p, _, rfl, .inr (SqT.of upd_same), rfl, rfl, _, rfl, ?_⟩
    by_cases z : x = Str.ofString "load" ∨ x = Str.ofString "swap"
    · obtain ⟨y, w', rfl, tr⟩ := h1 z
      refine ite2 (fun _ => ?_) (fun q => absurd ?_ q)
      · refine ⟨_, rfl, _, _, _, _, rfl, rfl, SqT.of (sp _ _ ht), atI_2, ?_⟩
        have := k _ sp
        unfold cellV at this
        rw [if_pos tr] at this
        exact this
      · rcases z with rfl | rfl <;> decide +kernel
    · have n1 : x ≠ Str.ofString "load" := fun q => z (.inl q)
      have n2 : x ≠ Str.ofString "swap" := fun q => z (.inr q)
      have tr := h2 n1 n2
      refine ite2 (fun q => absurd q ?_) (fun _ => ?_)
      · simp [inV, eqV, n1.symm, n2.symm]
      · have := k _ sp
        unfold cellV at this
        rw [if_neg (by rw [tr]; decide)] at this
        exact this

/-! what a part says -/
def exDep : Exx → Nat
  | .one _ => 1
  | .two _ _ _ => 2
def spVal (CH : Addr) (n : Nat) (K : PySem.W.Frag) : Sp := fun vs H Q _ => ∃ (A : HAd) (s : HandS) (v : V) (e : Exx), vs = [.ref A.h, v] ∧ HdC CH H A s ∧ Dat H v (exD e) ∧ exOk e ∧ exDep e ≤ n ∧ Q (.int (vx s.bs e)) H
theorem ok_val0 {C_Hand : Addr} {f : Addr} {fd : FuncData} (F : Fun K "value_of" "Hand.value_of" s_Hand_value_of f fd) : FnOk P w K mg base CX0 1 f fd ["self", "part"] (spVal C_Hand 0 K) := by
  refine F.ok sc_Hand_value_of (fun vs H Q E h => ?_) (fun cdv A outer s H vs Q E hr h => ?_)
  · obtain ⟨A, s, v, e, rfl, _, _, _, z, _⟩ := h
    cases e <;> simp [exDep] at z
  · obtain ⟨A, s, v, e, rfl, _, _, _, z, _⟩ := h
    cases e <;> simp [exDep] at z
theorem ok_valS {C_Hand : Addr} {n : Nat} {f : Addr} {fd : FuncData} (F : Fun K "value_of" "Hand.value_of" s_Hand_value_of f fd) (M_Hand_value_of : MethAt P w K mg base (n + 1) C_Hand "value_of" ["self", "part"] (spVal C_Hand n K)) (Z_Hand : Cl_Hand K C_Hand) (G_BOXES : Gv mg "BOXES" (.str "abcdefgh")) (G_ROUND : Gv mg "ROUND" (.int 1000)) : FnOk P w K mg base CX0 (n + 1 + 1) f fd ["self", "part"] (spVal C_Hand (n + 1) K) := by
  refine F.ok sc_Hand_value_of (fun vs H Q E h => ?_) (fun cdv A outer s H vs Q E hr h => ?_)
  · obtain ⟨A, s, v, e, rfl, _⟩ := h
    rfl
  · obtain ⟨B, z, v, e, rfl, c, d, eo, dp, k⟩ := h
    refine ⟨_, (pss_cons (ps_if (pt_cmpR op_eq (pe_ix (ix_tupK (K := K) rfl) (pv 1) pe_int (fun _ _ => rfl)) pe_str (nomark _)) (pss_one (ps_ret (pe_op op_mod (pe_ix (ix_tupK (K := K) rfl) (pv 1) pe_int (fun _ _ => rfl)) (pe_glob (by rfl) G_ROUND.choose_spec.1 G_ROUND.choose_spec.2)))) pss_nil)
      (pss_cons (ps_if (pt_cmpR op_eq (pe_ix (ix_tupK (K := K) rfl) (pv 1) pe_int (fun _ _ => rfl)) pe_str (nomark _)) (pss_one (ps_ret (pe_ix (ix_listK (K := K) rfl) (pe_fldK (K := K) rfl (pv 0) rfl) (pe_bmK (K := K) rfl PySem.F.plainAttrs_str PySem.F.slot_str_index PySem.F.type_str_index mt_indexS (pe_glob (by rfl) G_BOXES.choose_spec.1 G_BOXES.choose_spec.2) (pa_cons (pe_ix (ix_tupK (K := K) rfl) (pv 1) pe_int (fun _ _ => rfl)) pa_nil)) (fun _ _ => rfl)))) pss_nil)
      (pss_cons (ps_set (i := 2) sc_Hand_value_of.nd rfl (Or.inl rfl) (pe_methA M_Hand_value_of Z_Hand.cls (hr.mono (Nat.le_refl _)) (pv 0) (pa_cons (pe_ix (ix_tupK (K := K) rfl) (pv 1) pe_int (fun _ _ => rfl)) pa_nil)))
      (pss_cons (ps_set (i := 3) sc_Hand_value_of.nd rfl (Or.inl rfl) (pe_methA M_Hand_value_of Z_Hand.cls (hr.mono (Nat.le_refl _)) (pv 0) (pa_cons (pe_ix (ix_tupK (K := K) rfl) (pv 1) pe_int (fun _ _ => rfl)) pa_nil)))
      (pss_one (ps_ret (pe_op op_mod (pe_ifExp (pt_cmpR op_eq (pe_ix (ix_tupK (K := K) rfl) (pv 1) pe_int (fun _ _ => rfl)) pe_str (nomark _)) (pe_op op_add (pv 2) (pv 3)) (pe_op op_sub (pv 2) (pv 3))) (pe_glob (by rfl) G_ROUND.choose_spec.1 G_ROUND.choose_spec.2)))))))), ?_⟩
    match e, d, eo, dp, k with
    | .one (.num m), d, eo, dp, k =>
      obtain ⟨t, rfl, ht⟩ := at_x1 (x := .num m) d
      refine ⟨_, rfl, _, _, _, _, rfl, rfl, SqT.of ht, rfl, rfl, _, rfl, ?_⟩
      refine ite2 (fun _ => ?_) (fun z => absurd (decide_eq_true rfl) z)
      exact ⟨_, rfl, _, _, _, _, rfl, rfl, SqT.of ht, rfl, _, _, rfl, rfl, (by show (0 : Int) < 1000; decide), k⟩
    | .one (.box b), d, eo, dp, k =>
      obtain ⟨t, rfl, ht⟩ := at_x1 (x := .box b) d
      refine ⟨_, rfl, _, _, _, _, rfl, rfl, SqT.of ht, rfl, rfl, _, rfl, ?_⟩
      refine ite2 (fun z => absurd (of_decide_eq_true z) (by decide)) (fun _ => ?_)
      refine ⟨_, rfl, _, _, _, _, rfl, rfl, SqT.of ht, rfl, rfl, _, rfl, ?_⟩
      refine ite2 (fun _ => ?_) (fun z => absurd (decide_eq_true rfl) z)
      have hb : b < 8 := eo
      refine ⟨_, rfl, B.h, C_Hand, B.hx, _, _, rfl, c.h, Z_Hand.cls, Z_Hand.n_in_boxes, rfl, rfl, _, rfl, _, _, _, _, rfl, rfl, SqT.of ht, rfl, _, _, b, [], rfl, rfl, bx_at' hb, _, _, _, _, rfl, rfl, SqL.of c.b, atI_nat (v := .int ((z.bs[b]?).getD 0)) ?_, k⟩
      have hl : b < z.bs.length := by rw [c.bl]; exact hb
      rw [List.getElem?_map, List.getElem?_eq_getElem hl]
      rfl
    | .two p x y, d, eo, dp, k =>
      obtain ⟨t, u, w', rfl, ht, du, dw⟩ := at_two d
      have e1 : exOk (.one x) ∧ exOk (.one y) := eo
      have dn : 1 ≤ n := by
        have : 2 ≤ n + 1 := dp
        omega
      have np : ∀ q : Bool, (Str.ofString "number") ≠ (if q then Str.ofString "plus" else Str.ofString "minus") := by decide +kernel
      have nb : ∀ q : Bool, (Str.ofString "box") ≠ (if q then Str.ofString "plus" else Str.ofString "minus") := by decide +kernel
      refine ⟨_, rfl, _, _, _, _, rfl, rfl, SqT.of ht, rfl, rfl, _, rfl, ?_⟩
      refine ite2 (fun z => absurd (by simpa using (of_decide_eq_true z).symm) (np p)) (fun _ => ?_)
      refine ⟨_, rfl, _, _, _, _, rfl, rfl, SqT.of ht, rfl, rfl, _, rfl, ?_⟩
      refine ite2 (fun z => absurd (by simpa using (of_decide_eq_true z).symm) (nb p)) (fun _ => ?_)
      refine ⟨_, rfl, B.h, B.hx, _, rfl, c.h, rfl, _, rfl, _, _, _, _, rfl, rfl, SqT.of ht, rfl, B, z, u, .one x, rfl, c, du, e1.1, dn, ?_⟩
      refine ⟨_, rfl, B.h, B.hx, _, rfl, c.h, rfl, _, rfl, _, _, _, _, rfl, rfl, SqT.of ht, rfl, B, z, w', .one y, rfl, c, dw, e1.2, dn, ?_⟩
      refine ⟨_, rfl, _, _, _, _, rfl, rfl, SqT.of ht, rfl, rfl, _, rfl, ?_⟩
      cases p with
      | true =>
        refine ite2 (fun _ => ?_) (fun z => absurd (decide_eq_true rfl) z)
        exact ⟨_, rfl, _, rfl, _, _, rfl, rfl, _, _, rfl, rfl, (by show (0 : Int) < 1000; decide), k⟩
      | false =>
        refine ite2 (fun z => absurd (of_decide_eq_true z) (by decide)) (fun _ => ?_)
        exact ⟨_, rfl, _, rfl, _, _, rfl, rfl, _, _, rfl, rfl, (by show (0 : Int) < 1000; decide), k⟩
theorem dep2 (e : Exx) : exDep e ≤ 2 := by cases e <;> simp [exDep]
/-! whether what an unless asks is so -/
def spHolds (CH : Addr) (K : PySem.W.Frag) : Sp := fun vs H Q _ => ∃ (A : HAd) (s : HandS) (v : V) (q : Bool) (e f : Exx) (n : Nat), vs = [.ref A.h, v] ∧ HdC CH H A s ∧ Dat H v (rwD (.unl q e f n)) ∧ exOk e ∧ exOk f ∧ Q (.bl (holdsR s.bs (.unl q e f n))) H
theorem ok_holds {C_Hand : Addr} {f : Addr} {fd : FuncData} (F : Fun K "holds" "Hand.holds" s_Hand_holds f fd) (M_Hand_value_of : MethAt P w K mg base 3 C_Hand "value_of" ["self", "part"] (spVal C_Hand 2 K)) (Z_Hand : Cl_Hand K C_Hand) : FnOk P w K mg base CX0 4 f fd ["self", "row"] (spHolds C_Hand K) := by
  refine F.ok sc_Hand_holds (fun vs H Q E h => ?_) (fun cdv A outer s H vs Q E hr h => ?_)
  · obtain ⟨A, s, v, q, e, f, n, rfl, _⟩ := h
    rfl
  · obtain ⟨B, z, v, q, e, f, n, rfl, c, d, o1, o2, k⟩ := h
    refine ⟨_, (pss_cons (ps_set (i := 2) sc_Hand_holds.nd rfl (Or.inl rfl) (pe_methA M_Hand_value_of Z_Hand.cls (hr.mono (by decide)) (pv 0) (pa_cons (pe_ix (ix_tupK (K := K) rfl) (pv 1) pe_int (fun _ _ => rfl)) pa_nil)))
      (pss_cons (ps_set (i := 3) sc_Hand_holds.nd rfl (Or.inl rfl) (pe_methA M_Hand_value_of Z_Hand.cls (hr.mono (by decide)) (pv 0) (pa_cons (pe_ix (ix_tupK (K := K) rfl) (pv 1) pe_int (fun _ _ => rfl)) pa_nil)))
      (pss_one (ps_ret (pe_ifExp (pt_cmpR op_eq (pe_ix (ix_tupK (K := K) rfl) (pv 1) pe_int (fun _ _ => rfl)) pe_str (nomark _)) (pe_cmpR op_eq (pv 2) (pv 3) (nomark _)) (pe_cmpR op_lt (pv 2) (pv 3) (nomark _))))))), ?_⟩
    obtain ⟨t, ws, rfl, ht, x, y, rfl, dx, dy⟩ := at_rw d
    refine ⟨_, rfl, B.h, B.hx, _, rfl, c.h, rfl, _, rfl, _, _, _, _, rfl, rfl, SqT.of ht, rfl, B, z, x, e, rfl, c, dx, o1, dep2 e, ?_⟩
    refine ⟨_, rfl, B.h, B.hx, _, rfl, c.h, rfl, _, rfl, _, _, _, _, rfl, rfl, SqT.of ht, rfl, B, z, y, f, rfl, c, dy, o2, dep2 f, ?_⟩
    refine ⟨_, rfl, _, _, _, _, rfl, rfl, SqT.of ht, rfl, rfl, _, rfl, ?_⟩
    cases q with
    | true =>
      refine ite2 (fun _ => ?_) (fun z => absurd (decide_eq_true rfl) z)
      refine ⟨_, rfl, _, rfl, rfl, ?_⟩
      have : decide (V.int (vx z.bs e) = V.int (vx z.bs f)) = holdsR z.bs (.unl true e f n) := by
        show _ = decide (vx z.bs e = vx z.bs f)
        rw [Bool.eq_iff_iff, decide_eq_true_iff, decide_eq_true_iff]
        exact ⟨fun z => V.int.inj z, fun z => by rw [z]⟩
      rw [this]
      exact k
    | false =>
      refine ite2 (fun z => absurd (of_decide_eq_true z) (by decide)) (fun _ => ?_)
      exact ⟨_, rfl, _, rfl, _, _, rfl, rfl, k⟩
/-! a box takes a number -/
def spTake (CH : Addr) (K : PySem.W.Frag) : Sp := fun vs H Q _ => ∃ (A : HAd) (s : HandS) (b : Nat) (i : Int), vs = [.ref A.h, .str (bxS b), .int i] ∧ HdC CH H A s ∧ b < 8 ∧ Q .non (upd H A.b (.lst ((s.bs.set b i).map V.int)))
theorem ok_take {C_Hand : Addr} {f : Addr} {fd : FuncData} (F : Fun K "take" "Hand.take" s_Hand_take f fd) (Z_Hand : Cl_Hand K C_Hand) (G_BOXES : Gv mg "BOXES" (.str "abcdefgh")) : FnOk P w K mg base CX0 1 f fd ["self", "box", "number"] (spTake C_Hand K) := by
  refine F.ok sc_Hand_take (fun vs H Q E h => ?_) (fun cdv A outer s H vs Q E hr h => ?_)
  · obtain ⟨A, s, b, i, rfl, _⟩ := h
    rfl
  · obtain ⟨B, z, b, i, rfl, c, hb, k⟩ := h
    refine ⟨_, (pss_one (ps_asg (pv 2) (pg_sub (pe_fldK (K := K) rfl (pv 0) rfl) (pe_bmK (K := K) rfl PySem.F.plainAttrs_str PySem.F.slot_str_index PySem.F.type_str_index mt_indexS (pe_glob (by rfl) G_BOXES.choose_spec.1 G_BOXES.choose_spec.2) (pa_cons (pv 1) pa_nil)) set_list))), ?_⟩
    refine ⟨_, rfl, _, rfl, B.h, C_Hand, B.hx, _, _, rfl, c.h, Z_Hand.cls, Z_Hand.n_in_boxes, rfl, rfl, _, rfl, _, _, b, [], rfl, rfl, bx_at' hb, ?_⟩
    rw [List.map_set] at k
    exact ⟨B.b, _, _, b, rfl, rfl, c.b, (by rw [List.length_map, c.bl]; unfold ixN; rw [if_pos (by omega), if_pos (by omega)]; simp), k⟩

/-! a row that touches no cell -/
def spDo (CH : Addr) (K : PySem.W.Frag) : Sp := fun vs H Q _ => ∃ (A : HAd) (s : HandS) (v : V) (r : Rw) (m : Nat), vs = [.ref A.h, v] ∧ HdC CH H A s ∧ Dat H v (rwD r) ∧ rwOk m r ∧ touch r = false ∧ s.sy.length < 1000000 ∧ ∀ H', HdC CH H' A (doRow s r) → KH A H H' → Q .non H'
theorem ok_do {C_Hand : Addr} {f : Addr} {fd : FuncData} (F : Fun K "do" "Hand.do" s_Hand_do f fd) (M_Hand_value_of : MethAt P w K mg base 3 C_Hand "value_of" ["self", "part"] (spVal C_Hand 2 K)) (M_Hand_take : MethAt P w K mg base 1 C_Hand "take" ["self", "box", "number"] (spTake C_Hand K)) (M_Hand_holds : MethAt P w K mg base 4 C_Hand "holds" ["self", "row"] (spHolds C_Hand K)) (Z_Hand : Cl_Hand K C_Hand) : FnOk P w K mg base CX0 5 f fd ["self", "row"] (spDo C_Hand K) := by
  refine F.ok sc_Hand_do (fun vs H Q E h => ?_) (fun cdv A outer s H vs Q E hr h => ?_)
  · obtain ⟨A, s, v, r, m, rfl, _⟩ := h
    rfl
  · obtain ⟨B, z, v, r, m, rfl, c, d, ro, tr, sl, k⟩ := h
    refine ⟨_, (pss_cons (ps_fldaugK (K := K) rfl (pv 0) pe_int ip_add)
      (pss_one (ps_if (pt_cmpR op_eq (pe_ix (ix_tupK (K := K) rfl) (pv 1) pe_int (fun _ _ => rfl)) pe_str (nomark _)) (pss_one (ps_expr (pe_methA M_Hand_take Z_Hand.cls (hr.mono (by decide)) (pv 0) (pa_cons (pe_ix (ix_tupK (K := K) rfl) (pv 1) pe_int (fun _ _ => rfl)) (pa_cons (pe_methA M_Hand_value_of Z_Hand.cls (hr.mono (by decide)) (pv 0) (pa_cons (pe_ix (ix_tupK (K := K) rfl) (pv 1) pe_int (fun _ _ => rfl)) pa_nil)) pa_nil))))) (pss_one (ps_if (pt_cmpR op_eq (pe_ix (ix_tupK (K := K) rfl) (pv 1) pe_int (fun _ _ => rfl)) pe_str (nomark _)) (pss_one (ps_expr (pe_appendK (K := K) rfl (pe_fldK (K := K) rfl (pv 0) rfl) (pa_cons (pe_methA M_Hand_value_of Z_Hand.cls (hr.mono (by decide)) (pv 0) (pa_cons (pe_ix (ix_tupK (K := K) rfl) (pv 1) pe_int (fun _ _ => rfl)) pa_nil)) pa_nil)))) (pss_one (ps_if (PW.pt (pw_or (pt_cmpR op_eq (pe_ix (ix_tupK (K := K) rfl) (pv 1) pe_int (fun _ _ => rfl)) pe_str (nomark _)) (pw_or1 (pt_not (pt_val (pe_methA M_Hand_holds Z_Hand.cls (hr.mono (by decide)) (pv 0) (pa_cons (pv 1) pa_nil))))))) (pss_one (ps_fldK (K := K) rfl (pv 0) (pe_ix (ix_tupK (K := K) rfl) (pv 1) (pe_un un_neg pe_int) (fun _ _ => rfl)) rfl)) pss_nil))))))), ?_⟩
    refine ⟨_, rfl, B.h, C_Hand, B.hx, _, _, rfl, c.h, Z_Hand.cls, Z_Hand.n_at, rfl, _, _, rfl, rfl, B.hx, _, c.h, (by show 5 < 1000; decide), ?_⟩
    rw [put_at]
    have c1 := c.seth (z.pos + 1) z.st
    have k1 : KH B H (upd H B.h (.ins C_Hand B.hx (hF B.r ((z.pos + 1 : Nat) : Int) B.b B.sy z.st))) := KH.seth
    have d1 := d.keep (c.tup k1) _ (imm_rw r)
    dsimp only
    rw [show ((z.pos : Nat) : Int) + 1 = ((z.pos + 1 : Nat) : Int) by omega]
    generalize (upd H B.h (.ins C_Hand B.hx (hF B.r ((z.pos + 1 : Nat) : Int) B.b B.sy z.st))) = H1 at c1 k1 d1 ⊢
    obtain ⟨t, ws, rfl, ht, ps⟩ := at_rw d1
    cases r with
    | load b cc => cases tr
    | store cc e => cases tr
    | swap b cc e => cases tr
    | lett b e =>
      obtain ⟨x, rfl, dx⟩ := ps
      refine ⟨_, rfl, _, _, _, _, rfl, rfl, SqT.of ht, rfl, rfl, _, rfl, ?_⟩
      refine ite2 (fun _ => ?_) (fun z => absurd (decide_eq_true rfl) z)
      refine ⟨_, rfl, B.h, B.hx, _, rfl, c1.h, rfl, _, rfl, _, _, _, _, rfl, rfl, SqT.of ht, rfl, _, rfl, B.h, B.hx, _, rfl, c1.h, rfl, _, rfl, _, _, _, _, rfl, rfl, SqT.of ht, rfl, B, _, x, e, rfl, c1, dx, ro.2, dep2 e, ?_⟩
      exact ⟨B, _, b, _, rfl, c1, ro.1, k _ (c1.setb _ (by rw [List.length_set]; exact c1.bl)) (k1.trans KH.setb)⟩
    | say e =>
      obtain ⟨x, rfl, dx⟩ := ps
      refine ⟨_, rfl, _, _, _, _, rfl, rfl, SqT.of ht, rfl, rfl, _, rfl, ?_⟩
      refine ite2 (fun z => absurd (of_decide_eq_true z) (by decide)) (fun _ => ?_)
      refine ⟨_, rfl, _, _, _, _, rfl, rfl, SqT.of ht, rfl, rfl, _, rfl, ?_⟩
      refine ite2 (fun _ => ?_) (fun z => absurd (decide_eq_true rfl) z)
      refine ⟨_, rfl, B.h, C_Hand, B.hx, _, _, rfl, c1.h, Z_Hand.cls, Z_Hand.n_sayings, rfl, .inl ⟨rfl, _, SqL.of c1.y⟩, _, rfl, B.h, B.hx, _, rfl, c1.h, rfl, _, rfl, _, _, _, _, rfl, rfl, SqT.of ht, rfl, B, _, x, e, rfl, c1, dx, ro, dep2 e, ?_⟩
      refine ⟨_, _, _, rfl, rfl, c1.y, (by rw [List.length_map, sizeLine_eq]; show z.sy.length < _; omega), ?_⟩
      have := k _ (c1.sety (z.sy ++ [vx z.bs e])) (k1.trans KH.sety)
      rw [List.map_append] at this
      exact this
    | go n =>
      obtain rfl := ps
      refine ⟨_, rfl, _, _, _, _, rfl, rfl, SqT.of ht, rfl, rfl, _, rfl, ?_⟩
      refine ite2 (fun z => absurd (of_decide_eq_true z) (by decide)) (fun _ => ?_)
      refine ⟨_, rfl, _, _, _, _, rfl, rfl, SqT.of ht, rfl, rfl, _, rfl, ?_⟩
      refine ite2 (fun z => absurd (of_decide_eq_true z) (by decide)) (fun _ => ?_)
      refine ⟨_, rfl, _, _, _, _, rfl, rfl, SqT.of ht, rfl, rfl, _, rfl, ?_⟩
      refine ite2 (fun _ => ?_) (fun z => absurd (decide_eq_true rfl) z)
      refine iteT ?_
      refine ⟨_, rfl, _, rfl, _, _, _, _, rfl, rfl, SqT.of ht, rfl, _, rfl, B.h, C_Hand, B.hx, _, rfl, c1.h, Z_Hand.cls, Z_Hand.n_at, (by show 5 < 1000; decide), ?_⟩
      rw [put_at]
      exact k _ (c1.seth n z.st) (k1.trans KH.seth)
    | unl q e f n =>
      obtain ⟨x, y, rfl, dx, dy⟩ := ps
      refine ⟨_, rfl, _, _, _, _, rfl, rfl, SqT.of ht, rfl, rfl, _, rfl, ?_⟩
      refine ite2 (fun z => absurd (of_decide_eq_true z) (by decide)) (fun _ => ?_)
      refine ⟨_, rfl, _, _, _, _, rfl, rfl, SqT.of ht, rfl, rfl, _, rfl, ?_⟩
      refine ite2 (fun z => absurd (of_decide_eq_true z) (by decide)) (fun _ => ?_)
      refine ⟨_, rfl, _, _, _, _, rfl, rfl, SqT.of ht, rfl, rfl, _, rfl, ?_⟩
      refine ite2 (fun z => absurd (of_decide_eq_true z) (by decide)) (fun _ => ?_)
      refine ⟨_, rfl, B.h, B.hx, _, rfl, c1.h, rfl, _, rfl, B, _, _, q, e, f, n, rfl, c1, d1, ro.1, ro.2, _, rfl, ?_⟩
      cases hh : holdsR z.bs (.unl q e f n) with
      | true =>
        refine iteF ?_
        refine k _ ?_ k1
        show HdC C_Hand H1 B { z with pos := if holdsR z.bs (.unl q e f n) then z.pos + 1 else n }
        rw [hh]
        exact c1
      | false =>
        refine iteT ?_
        refine ⟨_, rfl, _, rfl, _, _, _, _, rfl, rfl, SqT.of ht, rfl, _, rfl, B.h, C_Hand, B.hx, _, rfl, c1.h, Z_Hand.cls, Z_Hand.n_at, (by show 5 < 1000; decide), ?_⟩
        rw [put_at]
        refine k _ ?_ (k1.trans KH.seth)
        show HdC C_Hand _ B { z with pos := if holdsR z.bs (.unl q e f n) then z.pos + 1 else n }
        rw [hh]
        exact c1.seth n z.st

/-! on to the next touch -/
def RowsH (H : Hp) (r : Addr) (m : Nat) (rws : List Rw) : Prop := ∃ ts, H r = some (.lst ts) ∧ Dats H ts (rws.map rwD) ∧ (∀ x ∈ rws, rwOk m x) ∧ rws.length ≤ 1000
theorem imms_rws (rws : List Rw) : imms (rws.map rwD) = true := imms_map rwD imm_rw rws
theorem RowsH.keep {H H' : Hp} {r : Addr} {m : Nat} {rws : List Rw} (h : RowsH H r m rws) (k : ∀ o, H r = some o → H' r = some o) (t : ∀ x xs, H x = some (.tup xs) → H' x = some (.tup xs)) : RowsH H' r m rws := by
  obtain ⟨ts, e, d, q⟩ := h
  exact ⟨ts, k _ e, d.keep t _ (imms_rws rws), q⟩
theorem RowsH.same {H H' : Hp} {r : Addr} {m : Nat} {rws : List Rw} (h : RowsH H r m rws) (k : Same H H') : RowsH H' r m rws := h.keep (fun o e => k _ _ e) k.tups
def spLead (CH : Addr) (K : PySem.W.Frag) : Sp := fun vs H Q _ => ∃ (A : HAd) (s : HandS) (m : Nat), vs = [.ref A.h] ∧ HdC CH H A s ∧ RowsH H A.r m s.rws ∧ A.r ≠ A.b ∧ A.r ≠ A.sy ∧ s.sy.length < 900000 ∧ ∀ H', HdC CH H' A (lead s) → KH A H H' → Q .non H'
theorem ok_lead {C_Hand : Addr} {f : Addr} {fd : FuncData} (F : Fun K "lead_on" "Hand.lead_on" s_Hand_lead_on f fd) (F_cell_of : FnAt P w K mg base 1 "cell_of" ["row"] (spCellOf K)) (M_Hand_do : MethAt P w K mg base 5 C_Hand "do" ["self", "row"] (spDo C_Hand K)) (Z_Hand : Cl_Hand K C_Hand) (G_MOST_UNTOUCHING : Gv mg "MOST_UNTOUCHING" (.int 60)) (Bt : Blt mg) : FnOk P w K mg base CX0 6 f fd ["self"] (spLead C_Hand K) := by
  refine F.ok sc_Hand_lead_on (fun vs H Q E h => ?_) (fun cdv A outer s H vs Q E hr h => ?_)
  · obtain ⟨A, s, m, rfl, _⟩ := h
    rfl
  · obtain ⟨B, s, m, rfl, c, R, nrb, nry, sl, k⟩ := h
    refine ⟨_, (pss_cons (ps_set (i := 1) sc_Hand_lead_on.nd rfl (Or.inl rfl) pe_int)
      (pss_cons (ps_while PassesOwn.never (PW.pt (pw_and (pt_cmpR op_lt (pe_fldK (K := K) rfl (pv 0) rfl) (pe_callB (call_len_seqK (K := K) rfl) (by rfl) Bt.b_len bt_len (pa_cons (pe_fldK (K := K) rfl (pv 0) rfl) pa_nil)) (nomark _)) (pw_and1 (pt_cmpR op_isN (pe_fn F_cell_of (hr.mono (by decide)) (by rfl) (pa_cons (pe_ix (ix_listK (K := K) rfl) (pe_fldK (K := K) rfl (pv 0) rfl) (pe_fldK (K := K) rfl (pv 0) rfl) (fun _ _ => rfl)) pa_nil)) pe_non (nomark _))))) (pss_cons (ps_if (pt_cmpR op_eq (pv 1) (pe_glob (by rfl) G_MOST_UNTOUCHING.choose_spec.1 G_MOST_UNTOUCHING.choose_spec.2) (nomark _)) (pss_cons (ps_fldK (K := K) rfl (pv 0) pe_str rfl)
      (pss_one ps_retN)) pss_nil)
      (pss_cons (ps_expr (pe_methA M_Hand_do Z_Hand.cls (hr.mono (by decide)) (pv 0) (pa_cons (pe_ix (ix_listK (K := K) rfl) (pe_fldK (K := K) rfl (pv 0) rfl) (pe_fldK (K := K) rfl (pv 0) rfl) (fun _ _ => rfl)) pa_nil)))
      (pss_one (ps_aug (i := 1) sc_Hand_lead_on.nd rfl (Or.inl rfl) pe_int ip_add)))))
      (pss_one (ps_fldK (K := K) rfl (pv 0) (pe_ifExp (pt_cmpR op_lt (pe_fldK (K := K) rfl (pv 0) rfl) (pe_callB (call_len_seqK (K := K) rfl) (by rfl) Bt.b_len bt_len (pa_cons (pe_fldK (K := K) rfl (pv 0) rfl) pa_nil)) (nomark _)) pe_str pe_str) rfl)))), ?_⟩
    have nrh : B.r ≠ B.h := by
      obtain ⟨ts, e, _⟩ := R
      exact ne_of e c.h (by intro z; cases z)
    refine ⟨fun n σ H1 => ∃ (d : Nat) (z : HandS), σ = [some (.ref B.h), some (.int d)] ∧ d ≤ 60 ∧ n = 60 - d ∧ HdC C_Hand H1 B z ∧ KH B H H1 ∧ led (60 - d) z = lead s ∧ z.rws = s.rws ∧ z.sy.length ≤ s.sy.length + d,
      ⟨60, 0, s, rfl, by decide, rfl, c, KH.of_same (Same.refl _), rfl, rfl, Nat.le_refl _⟩, fun n σ H1 hσ => ?_⟩
    obtain ⟨d, z, rfl, d60, rfl, c1, k1, hl, zr, zs⟩ := hσ
    have R1 : RowsH H1 B.r m z.rws := by
      rw [zr]
      exact R.keep (fun o e => k1 _ _ e nrh nrb nry) (c.tup k1)
    obtain ⟨ts, hts, dts, ro, rl⟩ := R1
    have ln : ts.length = z.rws.length := by rw [dts.length, List.length_map]
    refine ⟨_, rfl, B.h, C_Hand, B.hx, _, _, rfl, c1.h, Z_Hand.cls, Z_Hand.n_at, rfl, _, rfl, B.h, C_Hand, B.hx, _, _, rfl, c1.h, Z_Hand.cls, Z_Hand.n_rows, rfl, B.r, _, rfl, .inl (SqL.of hts), _, _, rfl, rfl, _, rfl, ?_⟩
    cases er : z.rws[z.pos]? with
    | none =>
      have ge : z.rws.length ≤ z.pos := List.getElem?_eq_none_iff.mp er
      have lf : ¬ decide (((z.pos : Nat) : Int) < ((ts.length : Nat) : Int)) = true := by rw [ln]; simp; omega
      refine ite2 (fun q => absurd q lf) (fun _ => ?_)
      refine iteF ?_
      refine ⟨_, rfl, B.h, C_Hand, B.hx, _, _, rfl, c1.h, Z_Hand.cls, Z_Hand.n_at, rfl, _, rfl, B.h, C_Hand, B.hx, _, _, rfl, c1.h, Z_Hand.cls, Z_Hand.n_rows, rfl, B.r, _, rfl, .inl (SqL.of hts), _, _, rfl, rfl, _, rfl, ?_⟩
      refine ite2 (fun q => absurd q lf) (fun _ => ?_)
      refine ⟨_, rfl, B.h, C_Hand, B.hx, _, rfl, c1.h, Z_Hand.cls, Z_Hand.n_state, (by show 5 < 1000; decide), ?_⟩
      rw [put_st]
      refine k _ ?_ (k1.trans KH.seth)
      have : lead s = { z with st := "ends" } := by
        rw [← hl]
        cases e60 : 60 - d <;> simp only [led, er]
      rw [this]
      exact c1.seth z.pos "ends"
    | some r =>
      have lt : z.pos < z.rws.length := (List.getElem?_eq_some_iff.mp er).1
      have lT : decide (((z.pos : Nat) : Int) < ((ts.length : Nat) : Int)) = true := by rw [ln]; simp; omega
      obtain ⟨v, ev, dv⟩ := dts.getD (i := z.pos) (d := rwD r) (by rw [List.getElem?_map, er]; rfl)
      refine ite2 (fun _ => ?_) (fun q => absurd lT q)
      refine ⟨_, rfl, B.h, C_Hand, B.hx, _, _, rfl, c1.h, Z_Hand.cls, Z_Hand.n_rows, rfl, _, rfl, B.h, C_Hand, B.hx, _, _, rfl, c1.h, Z_Hand.cls, Z_Hand.n_at, rfl, _, _, _, _, rfl, rfl, SqL.of hts, atI_nat ev, v, r, rfl, dv, fun H2 s2 => ⟨rfl, _, rfl, ?_⟩⟩
      have c2 := c1.same s2
      have hts2 := s2 _ _ hts
      have k2 := k1.trans (KH.of_same (A := B) s2)
      cases tr : touch r with
      | true =>
        refine ite2 (fun q => absurd (of_decide_eq_true q) (by unfold cellV; rw [if_pos tr]; intro z; cases z)) (fun _ => ?_)
        refine ⟨_, rfl, B.h, C_Hand, B.hx, _, _, rfl, c2.h, Z_Hand.cls, Z_Hand.n_at, rfl, _, rfl, B.h, C_Hand, B.hx, _, _, rfl, c2.h, Z_Hand.cls, Z_Hand.n_rows, rfl, B.r, _, rfl, .inl (SqL.of hts2), _, _, rfl, rfl, _, rfl, ?_⟩
        refine ite2 (fun _ => ?_) (fun q => absurd lT q)
        refine ⟨_, rfl, B.h, C_Hand, B.hx, _, rfl, c2.h, Z_Hand.cls, Z_Hand.n_state, (by show 5 < 1000; decide), ?_⟩
        rw [put_st]
        refine k _ ?_ (k2.trans KH.seth)
        have : lead s = { z with st := "waits" } := by
          rw [← hl]
          cases e60 : 60 - d <;> simp only [led, er, tr, if_true]
        rw [this]
        exact c2.seth z.pos "waits"
      | false =>
        refine ite2 (fun _ => ?_) (fun q => absurd (decide_eq_true (by unfold cellV; rw [if_neg (by rw [tr]; decide)])) q)
        refine ⟨fun σ' H' => ∃ m', m' < 60 - d ∧ ∃ (d : Nat) (z : HandS), σ' = [some (.ref B.h), some (.int d)] ∧ d ≤ 60 ∧ m' = 60 - d ∧ HdC C_Hand H' B z ∧ KH B H H' ∧ led (60 - d) z = lead s ∧ z.rws = s.rws ∧ z.sy.length ≤ s.sy.length + d, fun _ _ q => q, ?_⟩
        refine ⟨_, rfl, rfl, _, rfl, ?_⟩
        by_cases e6 : d = 60
        · subst e6
          refine ite2 (fun _ => ?_) (fun q => absurd (decide_eq_true rfl) q)
          refine ⟨_, rfl, B.h, C_Hand, B.hx, _, rfl, c2.h, Z_Hand.cls, Z_Hand.n_state, (by show 5 < 1000; decide), ?_⟩
          rw [put_st]
          refine k _ ?_ (k2.trans KH.seth)
          have : lead s = { z with st := "lost" } := by
            rw [← hl]
            show led 0 z = _
            simp only [led, er, tr]
            rfl
          rw [this]
          exact c2.seth z.pos "lost"
        · refine ite2 (fun q => absurd (by have := V.int.inj (of_decide_eq_true q); omega) e6) (fun _ => ?_)
          refine ⟨_, rfl, B.h, B.hx, _, rfl, c2.h, rfl, _, rfl, B.h, C_Hand, B.hx, _, _, rfl, c2.h, Z_Hand.cls, Z_Hand.n_rows, rfl, _, rfl, B.h, C_Hand, B.hx, _, _, rfl, c2.h, Z_Hand.cls, Z_Hand.n_at, rfl, _, _, _, _, rfl, rfl, SqL.of hts2, atI_nat ev, B, z, v, r, m, rfl, c2, dv.same s2 _, ro r (List.mem_of_getElem? er), tr, by omega, fun H3 c3 k3 => ?_⟩
          refine ⟨_, rfl, _, _, rfl, rfl, 60 - (d + 1), by omega, d + 1, doRow z r, rfl, by omega, rfl, c3, k2.trans k3, ?_, by rw [doRow_rws, zr], ?_⟩
          · rw [← hl, show 60 - d = (60 - (d + 1)) + 1 by omega]
            simp only [led, er, tr]
            rfl
          · have := doRow_sy z r
            omega

/-! ### works in general -/
def wF (pg nb hs tn : Addr) : List (Str × V) := [("program", .ref pg), ("numbers", .ref nb), ("hands", .ref hs), ("turns", .ref tn)]
/-! first numbers -/
def numOkL (m : Int) (ns : List Int) : Prop := (ns.length : Int) = m ∧ ∀ x ∈ ns, 0 ≤ x ∧ x < 1000
def spCheckNum (CN : Addr) (K : PySem.W.Frag) : Sp := fun vs H Q E => ∃ (cl : Addr) (m : Int) (ns : List Int), vs = [.ref cl, .int m] ∧ H cl = some (.lst (ns.map V.int)) ∧ ns.length ≤ 100 ∧ (numOkL m ns → ∀ H', Same H H' → Q .non H') ∧ (¬ numOkL m ns → ∀ H', Same H H' → E (.ref CN) none H')
theorem ok_checkNum {f : Addr} {fd : FuncData} (F : Fun K "check_numbers" "check_numbers" s_check_numbers f fd) (F_is_below : FnAt P w K mg base 2 "is_below" ["value", "count"] (spBelow K)) (G_ROUND : Gv mg "ROUND" (.int 1000)) (Bt : Blt mg) {C_NoNumber : Addr} (X_NoNumber : Xr K mg C_NoNumber "NoNumber") : FnOk P w K mg base (CX1 P w) 3 f fd ["cells", "count"] (spCheckNum C_NoNumber K) := by
  refine F.okX sc_check_numbers (fun vs H Q E h => ?_) (fun cdv A outer s H vs Q E hr h hR => ?_)
  · obtain ⟨cl, m, ns, rfl, _⟩ := h
    rfl
  · obtain ⟨cl, m, ns, rfl, hc, nl, k1, k2⟩ := h
    refine ⟨_, (pss_cons (ps_if (PW.pt (pw_or (pt_not (pt_val (pe_callB (call_isiK (K := K) (cv := .ty "list") (c := .type "list") rfl rfl) (by rfl) Bt.b_isinstance bt_isinstance (pa_cons (pv 0) (pa_cons (pe_bltn (v := .ty "list") (by rfl) Bt.b_list bt_list rfl) pa_nil))))) (pw_or1 (pt_cmpR op_ne (pe_callB (call_len_seqK (K := K) rfl) (by rfl) Bt.b_len bt_len (pa_cons (pv 0) pa_nil)) (pv 1) (nomark _))))) (pss_one (ps_raise PySem.F.excBase_ValueError X_NoNumber.ex X_NoNumber.bd (by rfl) rfl rfl hR (pa_cons pe_str pa_nil))) pss_nil)
      (pss_one (ps_if (pt_not (pt_val (pe_callB (call_all_boolsK (K := K) rfl rfl) (by rfl) Bt.b_all bt_all (pa_cons (pe_comp rfl (N := ["number"]) (own := ["number"]) (caps := []) (CompScope.of (by kernel_rfl)) (pi_listK (K := K) rfl (pv 0)) (fun _ _ _ _ => (pg_name (i := 0) (show List.Nodup (["number"] : List Str) by decide +kernel) rfl (Or.inl rfl))) (fun _ _ _ _ => pts_nil) (fun _ _ _ _ => (pe_fn F_is_below (hr.mono (by decide)) (by rfl) (pa_cons (pv 0) (pa_cons (pe_glob (by rfl) G_ROUND.choose_spec.1 G_ROUND.choose_spec.2) pa_nil))))) pa_nil)))) (pss_one (ps_raise PySem.F.excBase_ValueError X_NoNumber.ex X_NoNumber.bd (by rfl) rfl rfl hR (pa_cons pe_str pa_nil))) pss_nil))), ?_⟩
    refine ⟨_, rfl, _, _, true, rfl, .lst hc, isi_list_list K, true, rfl, ?_⟩
    refine iteF ?_
    refine ⟨_, rfl, cl, _, rfl, .inl (SqL.of hc), _, rfl, rfl, _, rfl, ?_⟩
    rw [List.length_map]
    by_cases el : (ns.length : Int) = m
    rotate_left
    · refine ite2 (fun _ => ?_) (fun z => absurd (by simp [el]) z)
      exact ⟨(by show 1 ≤ sizeLine; decide), k2 (fun z => el z.1) H (Same.refl _)⟩
    refine iteNS (by rw [el]) ?_
    refine ⟨_, rfl, cl, rfl, ⟨_, SqL.of hc⟩, fun D hD => ?_⟩
    refine comp_val (K := K) (fun i => (ns[i]?).map fun x => V.bl (decide (inP x 1000))) hD (SqL.of hc) (by rw [List.length_map]; omega) (fun i v H2 G F hi s2 kG kF => ?_) (fun H2 s2 e2 => ?_)
    · rw [List.getElem?_map] at hi
      cases ei : ns[i]? with
      | none => rw [ei] at hi; cases hi
      | some z =>
        rw [ei] at hi
        cases hi
        exact ⟨_, rfl, z, 1000, rfl, kF _ H2 (Same.refl _) (by rw [ei]; rfl)⟩
    rw [List.length_map, fm_some] at e2
    refine ⟨D, ns.map (fun x => decide (inP x 1000)), rfl, SqL.of (by rw [e2, List.map_map]; rfl), _, rfl, ?_⟩
    by_cases al : ∀ x ∈ ns, inP x 1000
    · have ea : (ns.map (fun x => decide (inP x 1000))).all id = true := by
        rw [List.all_map, List.all_eq_true]
        intro h hh
        exact decide_eq_true (al h hh)
      rw [ea]
      refine iteF ?_
      exact k1 ⟨el, fun x hx => al x hx⟩ H2 s2
    · have ea : (ns.map (fun x => decide (inP x 1000))).all id = false := by
        rw [List.all_map, ← Bool.not_eq_true, List.all_eq_true]
        intro z
        exact al fun h hh => of_decide_eq_true (p := inP h 1000) (z h hh)
      rw [ea]
      refine iteT ?_
      exact ⟨(by show 1 ≤ sizeLine; decide), k2 (fun z => al fun x hx => z.2 x hx) H2 s2⟩
/-! a touch -/
def spTouchBy (CW CH : Addr) (K : PySem.W.Frag) : Sp := fun vs H Q _ => ∃ (o dx pg nb hl tn : Addr) (A : HAd) (s : HandS) (m : Nat) (ns : List Int) (r : Rw), vs = [.ref o, .ref A.h] ∧ H o = some (.ins CW dx (wF pg nb hl tn)) ∧ H nb = some (.lst (ns.map V.int)) ∧ ns.length = m ∧ HdC CH H A s ∧ RowsH H A.r m s.rws ∧
  s.rws[s.pos]? = some r ∧ touch r = true ∧ nb ≠ A.b ∧ nb ≠ A.sy ∧
  ∀ t H', H t = none → H' t = some (.tup (touchV ns s.bs r)) → HdC CH H' A { s with bs := boxesR ns s.bs r } → H' nb = some (.lst ((cellsR ns s.bs r).map V.int)) → (∀ x u, H x = some u → x ≠ nb → x ≠ A.b → H' x = some u) → Q (.ref t) H'
theorem ok_touchBy {C_Works C_Hand : Addr} {f : Addr} {fd : FuncData} (F : Fun K "touch_by" "Works.touch_by" s_Works_touch_by f fd) (F_cell_of : FnAt P w K mg base 1 "cell_of" ["row"] (spCellOf K)) (M_Hand_value_of : MethAt P w K mg base 3 C_Hand "value_of" ["self", "part"] (spVal C_Hand 2 K)) (M_Hand_take : MethAt P w K mg base 1 C_Hand "take" ["self", "box", "number"] (spTake C_Hand K)) (Z_Works : Cl_Works K C_Works) (Z_Hand : Cl_Hand K C_Hand) : FnOk P w K mg base CX0 4 f fd ["self", "one"] (spTouchBy C_Works C_Hand K) := by
  refine F.ok sc_Works_touch_by (fun vs H Q E h => ?_) (fun cdv A outer s H vs Q E hr h => ?_)
  · obtain ⟨o, dx, pg, nb, hl, tn, A, s, m, ns, r, rfl, _⟩ := h
    rfl
  · obtain ⟨o, dx, pg, nb, hl, tn, B, z, m, ns, r, rfl, ho, hnb, nl, c, R, er, tr, nnb, nny, k⟩ := h
    refine ⟨_, (pss_cons (ps_set (i := 2) sc_Works_touch_by.nd rfl (Or.inl rfl) (pe_ix (ix_listK (K := K) rfl) (pe_fldK (K := K) rfl (pv 1) rfl) (pe_fldK (K := K) rfl (pv 1) rfl) (fun _ _ => rfl)))
      (pss_cons (ps_set (i := 3) sc_Works_touch_by.nd rfl (Or.inl rfl) (pe_fn F_cell_of (hr.mono (by decide)) (by rfl) (pa_cons (pv 2) pa_nil)))
      (pss_cons (ps_set (i := 4) sc_Works_touch_by.nd rfl (Or.inl rfl) (pe_ifExp (pt_cmpR op_eq (pe_ix (ix_tupK (K := K) rfl) (pv 2) pe_int (fun _ _ => rfl)) pe_str (nomark _)) pe_non (pe_ix (ix_listK (K := K) rfl) (pe_fldK (K := K) rfl (pv 0) rfl) (pv 3) (fun _ _ => rfl))))
      (pss_cons (ps_set (i := 5) sc_Works_touch_by.nd rfl (Or.inl rfl) (pe_ifExp (pt_cmpR op_eq (pe_ix (ix_tupK (K := K) rfl) (pv 2) pe_int (fun _ _ => rfl)) pe_str (nomark _)) pe_non (pe_methA M_Hand_value_of Z_Hand.cls (hr.mono (by decide)) (pv 1) (pa_cons (pe_ix (ix_tupK (K := K) rfl) (pv 2) (pe_un un_neg pe_int) (fun _ _ => rfl)) pa_nil))))
      (pss_cons (ps_if (pt_cmpR op_notN (pv 4) pe_non (nomark _)) (pss_one (ps_expr (pe_methA M_Hand_take Z_Hand.cls (hr.mono (by decide)) (pv 1) (pa_cons (pe_ix (ix_tupK (K := K) rfl) (pv 2) pe_int (fun _ _ => rfl)) (pa_cons (pv 4) pa_nil))))) pss_nil)
      (pss_cons (ps_if (pt_cmpR op_notN (pv 5) pe_non (nomark _)) (pss_one (ps_asg (pv 5) (pg_sub (pe_fldK (K := K) rfl (pv 0) rfl) (pv 3) set_list))) pss_nil)
      (pss_one (ps_ret (pe_tup (pa_cons (pe_ix (ix_tupK (K := K) rfl) (pv 2) pe_int (fun _ _ => rfl)) (pa_cons (pv 3) (pa_cons (pv 4) (pa_cons (pv 5) pa_nil))))))))))))), ?_⟩
    obtain ⟨ts, hts, dts, ro, rl⟩ := R
    obtain ⟨v, ev, dv⟩ := dts.getD (i := z.pos) (d := rwD r) (by rw [List.getElem?_map, er]; rfl)
    have rok := ro r (List.mem_of_getElem? er)
    refine ⟨_, rfl, B.h, C_Hand, B.hx, _, _, rfl, c.h, Z_Hand.cls, Z_Hand.n_rows, rfl, _, rfl, B.h, C_Hand, B.hx, _, _, rfl, c.h, Z_Hand.cls, Z_Hand.n_at, rfl, _, _, _, _, rfl, rfl, SqL.of hts, atI_nat ev, ?_⟩
    refine ⟨_, rfl, v, r, rfl, dv, fun H1 s1 => ?_⟩
    have c1 := c.same s1
    have ho1 := s1 _ _ ho
    have hnb1 := s1 _ _ hnb
    obtain ⟨t, ws, rfl, ht, ps⟩ := at_rw (dv.same s1 _)
    have nob : o ≠ nb := ne_of ho1 hnb1 (by intro z; cases z)
    have noB : o ≠ B.b := ne_of ho1 c1.b (by intro z; cases z)
    have ntb : t ≠ B.b := ne_of ht c1.b (by intro z; cases z)
    have ntn : t ≠ nb := ne_of ht hnb1 (by intro z; cases z)
    have cellOf : ∀ cc, cc < m → ns[cc]? = some ((ns[cc]?).getD 0) := fun cc h => by rw [List.getElem?_eq_getElem (by omega)]; rfl
    have cellAt : ∀ cc, cc < m → (ns.map V.int)[cc]? = some (.int ((ns[cc]?).getD 0)) := fun cc h => by rw [List.getElem?_map, cellOf cc h]; rfl
    have ixAt : ∀ cc, cc < m → ixN (ns.map V.int).length ((cc : Nat) : Int) = some cc := fun cc h => by rw [List.length_map]; unfold ixN; rw [if_pos (by omega), if_pos (by omega)]; simp
    cases r with
    | load b cc =>
      obtain rfl := ps
      refine ⟨_, rfl, _, _, _, _, rfl, rfl, SqT.of ht, rfl, rfl, _, rfl, ?_⟩
      refine ite2 (fun z => absurd (of_decide_eq_true z) (by decide)) (fun _ => ?_)
      refine ⟨_, rfl, o, C_Works, dx, _, _, rfl, ho1, Z_Works.cls, Z_Works.n_numbers, rfl, _, rfl, _, _, _, _, rfl, rfl, SqL.of hnb1, atI_nat (cellAt cc rok.2), ?_⟩
      refine ⟨_, rfl, _, _, _, _, rfl, rfl, SqT.of ht, rfl, rfl, _, rfl, ?_⟩
      refine ite2 (fun _ => ?_) (fun z => absurd (decide_eq_true rfl) z)
      refine ⟨_, rfl, rfl, _, rfl, ?_⟩
      refine iteT ?_
      refine ⟨_, rfl, B.h, B.hx, _, rfl, c1.h, rfl, _, rfl, _, _, _, _, rfl, rfl, SqT.of ht, rfl, _, rfl, B, z, b, _, rfl, c1, rok.1, ?_⟩
      refine ⟨_, rfl, rfl, _, rfl, ?_⟩
      refine iteF ?_
      have c2 := c1.setb (z.bs.set b ((ns[cc]?).getD 0)) (by rw [List.length_set]; exact c1.bl)
      refine ⟨_, rfl, _, _, _, _, rfl, rfl, SqT.of (by rw [upd_ne ntb]; exact ht), rfl, _, rfl, _, rfl, _, rfl, (by show 4 ≤ sizeLine; decide), fun p hp => ?_⟩
      have sp := same_new (o := HO.tup [V.str (Str.ofString "load"), V.int cc, V.int ((ns[cc]?).getD 0), V.non]) hp
      refine k p _ ?_ ?_ (c2.same sp) (sp _ _ (by rw [upd_ne nnb]; exact hnb1)) ?_
      · refine s1.free ?_
        have : p ≠ B.b := fun e => by rw [e, upd_same] at hp; cases hp
        rw [upd_ne this] at hp
        exact hp
      · rw [upd_same]
        show some (HO.tup [V.str (Str.ofString "load"), V.int cc, V.int ((ns[cc]?).getD 0), V.non]) = some (HO.tup [V.str (Str.ofString "load"), V.int cc, oV (ns[cc]?), V.non])
        rw [cellOf cc rok.2]
        rfl
      · intro x u e n1 n2
        exact sp _ _ (by rw [upd_ne n2]; exact s1 _ _ e)
    | store cc e =>
      obtain ⟨x, rfl, dx'⟩ := ps
      refine ⟨_, rfl, _, _, _, _, rfl, rfl, SqT.of ht, rfl, rfl, _, rfl, ?_⟩
      refine ite2 (fun _ => ?_) (fun z => absurd (decide_eq_true rfl) z)
      refine ⟨_, rfl, _, _, _, _, rfl, rfl, SqT.of ht, rfl, rfl, _, rfl, ?_⟩
      refine ite2 (fun z => absurd (of_decide_eq_true z) (by decide)) (fun _ => ?_)
      refine ⟨_, rfl, B.h, B.hx, _, rfl, c1.h, rfl, _, rfl, _, rfl, _, _, _, _, rfl, rfl, SqT.of ht, rfl, B, z, x, e, rfl, c1, dx', rok.2, dep2 e, ?_⟩
      refine ⟨_, rfl, rfl, _, rfl, ?_⟩
      refine iteF ?_
      refine ⟨_, rfl, rfl, _, rfl, ?_⟩
      refine iteT ?_
      refine ⟨_, rfl, _, rfl, o, C_Works, dx, _, _, rfl, ho1, Z_Works.cls, Z_Works.n_numbers, rfl, _, rfl, nb, _, _, cc, rfl, rfl, hnb1, ixAt cc rok.1, ?_⟩
      rw [← List.map_set]
      refine ⟨_, rfl, _, _, _, _, rfl, rfl, SqT.of (by rw [upd_ne ntn]; exact ht), rfl, _, rfl, _, rfl, _, rfl, (by show 4 ≤ sizeLine; decide), fun p hp => ?_⟩
      have sp := same_new (o := HO.tup [V.str (Str.ofString "store"), V.int cc, V.non, V.int (vx z.bs e)]) hp
      have nbh : B.h ≠ nb := ne_of c1.h hnb1 (by intro z; cases z)
      refine k p _ ?_ upd_same (HdC.same ⟨by rw [upd_ne nbh]; exact c1.h, by rw [upd_ne nnb.symm]; exact c1.b, by rw [upd_ne nny.symm]; exact c1.y, c1.nby, c1.bl⟩ sp) (sp _ _ upd_same) ?_
      · refine s1.free ?_
        have : p ≠ nb := fun e => by rw [e, upd_same] at hp; cases hp
        rw [upd_ne this] at hp
        exact hp
      · intro x u e n1 n2
        exact sp _ _ (by rw [upd_ne n1]; exact s1 _ _ e)
    | swap b cc e =>
      obtain ⟨x, rfl, dx'⟩ := ps
      refine ⟨_, rfl, _, _, _, _, rfl, rfl, SqT.of ht, rfl, rfl, _, rfl, ?_⟩
      refine ite2 (fun z => absurd (of_decide_eq_true z) (by decide)) (fun _ => ?_)
      refine ⟨_, rfl, o, C_Works, dx, _, _, rfl, ho1, Z_Works.cls, Z_Works.n_numbers, rfl, _, rfl, _, _, _, _, rfl, rfl, SqL.of hnb1, atI_nat (cellAt cc rok.2.1), ?_⟩
      refine ⟨_, rfl, _, _, _, _, rfl, rfl, SqT.of ht, rfl, rfl, _, rfl, ?_⟩
      refine ite2 (fun z => absurd (of_decide_eq_true z) (by decide)) (fun _ => ?_)
      refine ⟨_, rfl, B.h, B.hx, _, rfl, c1.h, rfl, _, rfl, _, rfl, _, _, _, _, rfl, rfl, SqT.of ht, rfl, B, z, x, e, rfl, c1, dx', rok.2.2, dep2 e, ?_⟩
      refine ⟨_, rfl, rfl, _, rfl, ?_⟩
      refine iteT ?_
      refine ⟨_, rfl, B.h, B.hx, _, rfl, c1.h, rfl, _, rfl, _, _, _, _, rfl, rfl, SqT.of ht, rfl, _, rfl, B, z, b, _, rfl, c1, rok.1, ?_⟩
      refine ⟨_, rfl, rfl, _, rfl, ?_⟩
      refine iteT ?_
      have c2 := c1.setb (z.bs.set b ((ns[cc]?).getD 0)) (by rw [List.length_set]; exact c1.bl)
      have hnb2 : (upd H1 B.b (.lst ((z.bs.set b ((ns[cc]?).getD 0)).map V.int))) nb = some (.lst (ns.map V.int)) := by rw [upd_ne nnb]; exact hnb1
      refine ⟨_, rfl, _, rfl, o, C_Works, dx, _, _, rfl, (by rw [upd_ne noB]; exact ho1), Z_Works.cls, Z_Works.n_numbers, rfl, _, rfl, nb, _, _, cc, rfl, rfl, hnb2, ixAt cc rok.2.1, ?_⟩
      rw [← List.map_set]
      refine ⟨_, rfl, _, _, _, _, rfl, rfl, SqT.of (by rw [upd_ne ntn, upd_ne ntb]; exact ht), rfl, _, rfl, _, rfl, _, rfl, (by show 4 ≤ sizeLine; decide), fun p hp => ?_⟩
      have sp := same_new (o := HO.tup [V.str (Str.ofString "swap"), V.int cc, V.int ((ns[cc]?).getD 0), V.int (vx z.bs e)]) hp
      have nbh : B.h ≠ nb := ne_of c1.h hnb1 (by intro z; cases z)
      refine k p _ ?_ ?_ (HdC.same ⟨by rw [upd_ne nbh]; exact c2.h, by rw [upd_ne nnb.symm]; exact c2.b, by rw [upd_ne nny.symm]; exact c2.y, c2.nby, c2.bl⟩ sp) (sp _ _ upd_same) ?_
      · refine s1.free ?_
        have n1 : p ≠ nb := fun e => by rw [e, upd_same] at hp; cases hp
        rw [upd_ne n1] at hp
        have n2 : p ≠ B.b := fun e => by rw [e, upd_same] at hp; cases hp
        rw [upd_ne n2] at hp
        exact hp
      · rw [upd_same]
        show some (HO.tup [V.str (Str.ofString "swap"), V.int cc, V.int ((ns[cc]?).getD 0), V.int (vx z.bs e)]) = some (HO.tup [V.str (Str.ofString "swap"), V.int cc, oV (ns[cc]?), V.int (vx z.bs e)])
        rw [cellOf cc rok.2.1]
        rfl
      · intro x u e n1 n2
        exact sp _ _ (by rw [upd_ne n1, upd_ne n2]; exact s1 _ _ e)
    | lett b e => cases tr
    | say e => cases tr
    | go n => cases tr
    | unl q e f n => cases tr

/-! a works at the heap -/
structure WAd where
  (o dx pg L nb hl tn : Addr) (rs : List Addr) (hd : List HAd)
structure HdAt (CH : Addr) (i k m : Nat) (τ : Tg) (H : Hp) (A : HAd) (s : HandS) : Prop where
  c : HdC CH H A s
  r : RowsH H A.r m s.rws
  tr : τ A.r = [0]
  th : τ A.h = [i, 4, k]
  tb : τ A.b = [i, 5, k]
  ty : τ A.sy = [i, 6, k]
structure WAt (CW CH : Addr) (i : Nat) (τ : Tg) (H : Hp) (W : WAd) (S : WkS) : Prop where
  un : Unt τ H
  i0 : i ≠ 0
  o : H W.o = some (.ins CW W.dx (wF W.pg W.nb W.hl W.tn))
  pg : H W.pg = some (.tup [.int S.m, .ref W.L])
  L : H W.L = some (.lst (W.rs.map V.ref))
  nb : H W.nb = some (.lst (S.ns.map V.int))
  hl : H W.hl = some (.lst (W.hd.map fun a => .ref a.h))
  tn : H W.tn = some (.lst (S.ts.map V.int))
  to : τ W.o = [i, 0]
  tb : τ W.nb = [i, 1]
  tl : τ W.hl = [i, 2]
  tt : τ W.tn = [i, 3]
  tL : τ W.L = [0]
  rl : W.rs.length = S.hs.length
  rs : ∀ (k : Nat) (r : Addr) (s : HandS), W.rs[k]? = some r → S.hs[k]? = some s → τ r = [0] ∧ RowsH H r S.m s.rws
  len : W.hd.length = S.hs.length
  hd : ∀ (k : Nat) (A : HAd) (s : HandS), W.hd[k]? = some A → S.hs[k]? = some s → HdAt CH i k S.m τ H A s
  ok : ∀ s ∈ S.hs, HOk s
  sl : ∀ s ∈ S.hs, s.sy.length ≤ 60 * (S.ts.length + 1)
  nl : S.ns.length = S.m
  hn : S.hs.length ≤ 100
section
variable {CW CH : Addr} {i : Nat} {τ τ' : Tg} {H H' : Hp} {W : WAd} {S : WkS}
theorem HdAt.mv {k m : Nat} {A : HAd} {s : HandS} (h : HdAt CH i k m τ H A s) (q : Mv i τ H τ' H') : HdAt CH i k m τ' H' A s := by
  obtain ⟨⟨c1, c2, c3, c4, c5⟩, r, tr, th, tb, ty⟩ := h
  have e1 := q.keep _ _ c1 (.inr (by rw [th]; rfl))
  have e2 := q.keep _ _ c2 (.inr (by rw [tb]; rfl))
  have e3 := q.keep _ _ c3 (.inr (by rw [ty]; rfl))
  have rr := r
  obtain ⟨ts, hr, _⟩ := rr
  have e4 := q.keep _ _ hr (.inl tr)
  exact ⟨⟨e1.1, e2.1, e3.1, c4, c5⟩, r.keep (fun o e => (q.keep _ _ e (.inl tr)).1) q.tup, e4.2.trans tr, e1.2.trans th, e2.2.trans tb, e3.2.trans ty⟩
theorem rows_mv {r : Addr} {m : Nat} {rws : List Rw} (h : τ r = [0] ∧ RowsH H r m rws) (q : Mv i τ H τ' H') : τ' r = [0] ∧ RowsH H' r m rws := by
  obtain ⟨t, R⟩ := h
  have rr := R
  obtain ⟨ts, hr, _⟩ := rr
  have e4 := q.keep _ _ hr (.inl t)
  exact ⟨e4.2.trans t, R.keep (fun o e => (q.keep _ _ e (.inl t)).1) q.tup⟩
theorem WAt.mv (w : WAt CW CH i τ H W S) (q : Mv i τ H τ' H') (u : Unt τ' H') : WAt CW CH i τ' H' W S := by
  have e1 := q.keep _ _ w.o (.inr (by rw [w.to]; rfl))
  have e2 := q.keep _ _ w.nb (.inr (by rw [w.tb]; rfl))
  have e3 := q.keep _ _ w.hl (.inr (by rw [w.tl]; rfl))
  have e4 := q.keep _ _ w.tn (.inr (by rw [w.tt]; rfl))
  have e5 := q.keep _ _ w.L (.inl w.tL)
  exact ⟨u, w.i0, e1.1, q.tup _ _ w.pg, e5.1, e2.1, e3.1, e4.1, e1.2.trans w.to, e2.2.trans w.tb, e3.2.trans w.tl, e4.2.trans w.tt, e5.2.trans w.tL, w.rl, fun k r s h1 h2 => rows_mv (w.rs k r s h1 h2) q, w.len, fun k A s h1 h2 => (w.hd k A s h1 h2).mv q, w.ok, w.sl, w.nl, w.hn⟩
theorem WAt.same (w : WAt CW CH i τ H W S) (k : Same H H') : WAt CW CH i τ H' W S := w.mv (Mv.of_same k) (w.un.same k)
theorem WAt.hand {k : Nat} {s : HandS} (w : WAt CW CH i τ H W S) (h : S.hs[k]? = some s) : ∃ A, W.hd[k]? = some A ∧ HdAt CH i k S.m τ H A s := by
  have : k < W.hd.length := by rw [w.len]; exact (List.getElem?_eq_some_iff.mp h).1
  exact ⟨W.hd[k], by simp [this], w.hd k _ _ (by simp [this]) h⟩
end
/-! a hand by its number -/
def spHandOf (CW CH CN : Addr) (K : PySem.W.Frag) : Sp := fun vs H Q E => ∃ (i : Nat) (τ : Tg) (W : WAd) (S : WkS) (h : Int), vs = [.ref W.o, .int h] ∧ WAt CW CH i τ H W S ∧ (∀ (k : Nat) (A : HAd) (s : HandS), h = k → W.hd[k]? = some A → S.hs[k]? = some s → Q (.ref A.h) H) ∧ (¬ inP h S.hs.length → E (.ref CN) none H)
theorem ok_handOf {C_Works C_Hand : Addr} {f : Addr} {fd : FuncData} (F : Fun K "hand_of" "Works.hand_of" s_Works_hand_of f fd) (F_is_below : FnAt P w K mg base 2 "is_below" ["value", "count"] (spBelow K)) (Z_Works : Cl_Works K C_Works) (Bt : Blt mg) {C_NoHand : Addr} (X_NoHand : Xr K mg C_NoHand "NoHand") : FnOk P w K mg base (CX1 P w) 3 f fd ["self", "hand"] (spHandOf C_Works C_Hand C_NoHand K) := by
  refine F.okX sc_Works_hand_of (fun vs H Q E h => ?_) (fun cdv A outer s H vs Q E hr h hR => ?_)
  · obtain ⟨i, τ, W, S, h, rfl, _⟩ := h
    rfl
  · obtain ⟨i, τ, W, S, h, rfl, w, k1, k2⟩ := h
    refine ⟨_, (pss_cons (ps_if (pt_not (pt_val (pe_fn F_is_below (hr.mono (by decide)) (by rfl) (pa_cons (pv 1) (pa_cons (pe_callB (call_len_seqK (K := K) rfl) (by rfl) Bt.b_len bt_len (pa_cons (pe_fldK (K := K) rfl (pv 0) rfl) pa_nil)) pa_nil))))) (pss_one (ps_raise PySem.F.excBase_ValueError X_NoHand.ex X_NoHand.bd (by rfl) rfl rfl hR (pa_cons pe_str pa_nil))) pss_nil)
      (pss_one (ps_ret (pe_ix (ix_listK (K := K) rfl) (pe_fldK (K := K) rfl (pv 0) rfl) (pv 1) (fun _ _ => rfl))))), ?_⟩
    refine ⟨_, rfl, _, rfl, W.o, C_Works, W.dx, _, _, rfl, w.o, Z_Works.cls, Z_Works.n_hands, rfl, W.hl, _, rfl, .inl (SqL.of w.hl), h, _, rfl, _, rfl, ?_⟩
    have ll : (W.hd.map fun a => V.ref a.h).length = S.hs.length := by rw [List.length_map, w.len]
    by_cases hh : inP h (W.hd.map fun a => V.ref a.h).length
    · rw [decide_eq_true hh]
      refine iteF ?_
      obtain ⟨n, rfl⟩ := Int.eq_ofNat_of_zero_le hh.1
      have nl : n < S.hs.length := by have := hh.2; rw [ll] at this; omega
      have es : S.hs[n]? = some S.hs[n] := by simp [nl]
      obtain ⟨A, eA, _⟩ := w.hand es
      exact ⟨_, rfl, W.o, C_Works, W.dx, _, _, rfl, w.o, Z_Works.cls, Z_Works.n_hands, rfl, _, rfl, _, _, _, _, rfl, rfl, SqL.of w.hl, atI_nat (by rw [List.getElem?_map, eA]; rfl), k1 n A _ rfl eA es⟩
    · rw [decide_eq_false hh]
      refine iteT ?_
      rw [ll] at hh
      exact ⟨(by show 1 ≤ sizeLine; decide), k2 hh⟩

/-! what a works tells -/
def spCells (CW CH : Addr) (K : PySem.W.Frag) : Sp := fun vs H Q _ => ∃ (i : Nat) (τ : Tg) (W : WAd) (S : WkS), vs = [.ref W.o] ∧ WAt CW CH i τ H W S ∧ ∀ l H', H l = none → H' l = some (.lst (S.ns.map V.int)) → Same H H' → Q (.ref l) H'
theorem ok_cells {C_Works C_Hand : Addr} {f : Addr} {fd : FuncData} (F : Fun K "cells" "Works.cells" s_Works_cells f fd) (Z_Works : Cl_Works K C_Works) (Bt : Blt mg) : FnOk P w K mg base CX0 1 f fd ["self"] (spCells C_Works C_Hand K) := by
  refine F.ok sc_Works_cells (fun vs H Q E h => ?_) (fun cdv A outer s H vs Q E hr h => ?_)
  · obtain ⟨i, τ, W, S, rfl, _⟩ := h
    rfl
  · obtain ⟨i, τ, W, S, rfl, w, k⟩ := h
    refine ⟨_, (pss_one (ps_ret (pe_callTy (call_list_ofK (K := K) rfl) (by rfl) Bt.b_list bt_list (pa_cons (pe_fldK (K := K) rfl (pv 0) rfl) pa_nil)))), ?_⟩
    exact ⟨_, rfl, W.o, C_Works, W.dx, _, _, rfl, w.o, Z_Works.cls, Z_Works.n_numbers, rfl, W.nb, _, rfl, .inl (SqL.of w.nb), fun l hl => k l _ hl upd_same (same_new hl)⟩

def spTold (f : HandS → List Int) (CW CH CN : Addr) (K : PySem.W.Frag) : Sp := fun vs H Q E => ∃ (i : Nat) (τ : Tg) (W : WAd) (S : WkS) (h : Int), vs = [.ref W.o, .int h] ∧ WAt CW CH i τ H W S ∧
  (∀ (k : Nat) (s : HandS) (l : Addr) (H' : Hp), h = k → S.hs[k]? = some s → H l = none → H' l = some (.lst ((f s).map V.int)) → Same H H' → Q (.ref l) H') ∧ (¬ inP h S.hs.length → E (.ref CN) none H)

theorem ok_boxes {C_Works C_Hand C_NoHand : Addr} {f : Addr} {fd : FuncData} (F : Fun K "boxes" "Works.boxes" s_Works_boxes f fd) (M_Works_hand_of : MethAtX P w K mg base 3 C_Works "hand_of" ["self", "hand"] (spHandOf C_Works C_Hand C_NoHand K)) (Z_Works : Cl_Works K C_Works) (Z_Hand : Cl_Hand K C_Hand) (Bt : Blt mg) : FnOk P w K mg base (CX1 P w) 4 f fd ["self", "hand"] (spTold HandS.bs C_Works C_Hand C_NoHand K) := by
  refine F.okX sc_Works_boxes (fun vs H Q E h => ?_) (fun cdv A outer s H vs Q E hr h hR => ?_)
  · obtain ⟨i, τ, W, S, h, rfl, _⟩ := h
    rfl
  · obtain ⟨i, τ, W, S, h, rfl, w, k1, k2⟩ := h
    refine ⟨_, (pss_one (ps_ret (pe_callTy (call_list_ofK (K := K) rfl) (by rfl) Bt.b_list bt_list (pa_cons (pe_fldK (K := K) rfl (pe_methX M_Works_hand_of Z_Works.cls rfl hR (hr.mono (by decide)) (pv 0) (pa_cons (pv 1) pa_nil)) rfl) pa_nil)))), ?_⟩
    refine ⟨_, rfl, W.o, W.dx, _, rfl, w.o, rfl, _, rfl, i, τ, W, S, h, rfl, w, fun k A s e eA es => ?_, k2⟩
    have a := w.hd k A s eA es
    exact ⟨A.h, C_Hand, A.hx, _, _, rfl, a.c.h, Z_Hand.cls, Z_Hand.n_in_boxes, rfl, A.b, _, rfl, .inl (SqL.of a.c.b), fun l hl => k1 k s l _ e es hl upd_same (same_new hl)⟩

def spHow (CW CH CN : Addr) (K : PySem.W.Frag) : Sp := fun vs H Q E => ∃ (i : Nat) (τ : Tg) (W : WAd) (S : WkS) (h : Int), vs = [.ref W.o, .int h] ∧ WAt CW CH i τ H W S ∧ (∀ (k : Nat) (s : HandS), h = k → S.hs[k]? = some s → Q (.str s.st) H) ∧ (¬ inP h S.hs.length → E (.ref CN) none H)
theorem ok_how {C_Works C_Hand C_NoHand : Addr} {f : Addr} {fd : FuncData} (F : Fun K "how" "Works.how" s_Works_how f fd) (M_Works_hand_of : MethAtX P w K mg base 3 C_Works "hand_of" ["self", "hand"] (spHandOf C_Works C_Hand C_NoHand K)) (Z_Works : Cl_Works K C_Works) (Z_Hand : Cl_Hand K C_Hand) : FnOk P w K mg base (CX1 P w) 4 f fd ["self", "hand"] (spHow C_Works C_Hand C_NoHand K) := by
  refine F.okX sc_Works_how (fun vs H Q E h => ?_) (fun cdv A outer s H vs Q E hr h hR => ?_)
  · obtain ⟨i, τ, W, S, h, rfl, _⟩ := h
    rfl
  · obtain ⟨i, τ, W, S, h, rfl, w, k1, k2⟩ := h
    refine ⟨_, (pss_one (ps_ret (pe_fldK (K := K) rfl (pe_methX M_Works_hand_of Z_Works.cls rfl hR (hr.mono (by decide)) (pv 0) (pa_cons (pv 1) pa_nil)) rfl))), ?_⟩
    refine ⟨_, rfl, W.o, W.dx, _, rfl, w.o, rfl, _, rfl, i, τ, W, S, h, rfl, w, fun k A s e eA es => ?_, k2⟩
    have a := w.hd k A s eA es
    exact ⟨A.h, C_Hand, A.hx, _, _, rfl, a.c.h, Z_Hand.cls, Z_Hand.n_state, rfl, k1 k s e es⟩

/-! what is tagged otherwise stays -/
structure MvT (C : List (List Nat)) (τ : Tg) (H : Hp) (τ' : Tg) (H' : Hp) : Prop where
  keep : ∀ x u, H x = some u → τ x ∉ C → H' x = some u ∧ τ' x = τ x
  tup : ∀ x xs, H x = some (.tup xs) → H' x = some (.tup xs)
theorem MvT.of_same {C : List (List Nat)} {τ : Tg} {H H' : Hp} (k : Same H H') : MvT C τ H τ H' := ⟨fun x u e _ => ⟨k _ _ e, rfl⟩, k.tups⟩
theorem MvT.claim {C : List (List Nat)} {τ : Tg} {H H' : Hp} {p : Addr} {t : List Nat} (k : Same H H') (hp : H p = none) : MvT C τ H (tgSet τ p t) H' := ⟨fun x u e _ => ⟨k _ _ e, tgSet_ne (ne_of_none e hp)⟩, k.tups⟩
theorem MvT.set {C : List (List Nat)} {τ : Tg} {H : Hp} {x : Addr} {o u : HO} (ht : τ x ∈ C) (hx : H x = some o) (hn : ∀ xs, o ≠ .tup xs) : MvT C τ H τ (upd H x u) :=
  ⟨fun y v e n => ⟨by rw [upd_ne (fun z : y = x => n (by rw [z]; exact ht))]; exact e, rfl⟩, fun y xs e => by rw [upd_ne (ne_of e hx fun z => hn xs z.symm)]; exact e⟩
theorem MvT.trans {C : List (List Nat)} {τ τ1 τ2 : Tg} {H H1 H2 : Hp} (a : MvT C τ H τ1 H1) (b : MvT C τ1 H1 τ2 H2) : MvT C τ H τ2 H2 := ⟨fun x u e n => by
  obtain ⟨e1, t1⟩ := a.keep x u e n
  obtain ⟨e2, t2⟩ := b.keep x u e1 (by rw [t1]; exact n)
  exact ⟨e2, by rw [t2, t1]⟩, fun x xs e => b.tup _ _ (a.tup _ _ e)⟩
theorem HdAt.mvT {C : List (List Nat)} {CH : Addr} {i k m : Nat} {τ τ' : Tg} {H H' : Hp} {A : HAd} {s : HandS} (h : HdAt CH i k m τ H A s) (q : MvT C τ H τ' H') (h0 : [0] ∉ C) (h4 : [i, 4, k] ∉ C) (h5 : [i, 5, k] ∉ C) (h6 : [i, 6, k] ∉ C) : HdAt CH i k m τ' H' A s := by
  obtain ⟨⟨c1, c2, c3, c4, c5⟩, r, tr, th, tb, ty⟩ := h
  have e1 := q.keep _ _ c1 (by rw [th]; exact h4)
  have e2 := q.keep _ _ c2 (by rw [tb]; exact h5)
  have e3 := q.keep _ _ c3 (by rw [ty]; exact h6)
  have rr := r
  obtain ⟨ts, hr, _⟩ := rr
  have e4 := q.keep _ _ hr (by rw [tr]; exact h0)
  exact ⟨⟨e1.1, e2.1, e3.1, c4, c5⟩, r.keep (fun o e => (q.keep _ _ e (by rw [tr]; exact h0)).1) q.tup, e4.2.trans tr, e1.2.trans th, e2.2.trans tb, e3.2.trans ty⟩
theorem rows_mvT {C : List (List Nat)} {τ τ' : Tg} {H H' : Hp} {r : Addr} {m : Nat} {rws : List Rw} (h : τ r = [0] ∧ RowsH H r m rws) (q : MvT C τ H τ' H') (h0 : [0] ∉ C) : τ' r = [0] ∧ RowsH H' r m rws := by
  obtain ⟨t, R⟩ := h
  have rr := R
  obtain ⟨ts, hr, _⟩ := rr
  have e4 := q.keep _ _ hr (by rw [t]; exact h0)
  exact ⟨e4.2.trans t, R.keep (fun o e => (q.keep _ _ e (by rw [t]; exact h0)).1) q.tup⟩
/-! a turn -/
def spTurn (CW CH CN CO : Addr) (K : PySem.W.Frag) : Sp := fun vs H Q E => ∃ (i : Nat) (τ : Tg) (W : WAd) (S : WkS) (h : Int), vs = [.ref W.o, .int h] ∧ WAt CW CH i τ H W S ∧ S.ts.length ≤ 10000 ∧
  (∀ (k : Nat) (s : HandS) (r : Rw) (t : Addr) (H' : Hp), h = k → S.hs[k]? = some s → s.st = "waits" → s.rws[s.pos]? = some r → touch r = true → H t = none → H' t = some (.tup (touchV S.ns s.bs r)) → WAt CW CH i τ H' W (turnS S k) → Stp i τ H H' → Q (.ref t) H') ∧
  (¬ inP h S.hs.length → E (.ref CN) none H) ∧ (∀ (k : Nat) (s : HandS), h = k → S.hs[k]? = some s → s.st ≠ "waits" → E (.ref CO) none H)
theorem turnS_eq {S : WkS} {k : Nat} {s : HandS} {r : Rw} (es : S.hs[k]? = some s) (er : s.rws[s.pos]? = some r) : turnS S k = { S with ns := cellsR S.ns s.bs r, hs := S.hs.set k (goneS S.ns s r), ts := S.ts ++ [(k : Int)] } := by
  unfold turnS
  simp only [es, er]
theorem cellsR_len (ns bs : List Int) (r : Rw) : (cellsR ns bs r).length = ns.length := by cases r <;> simp [cellsR]
theorem WAt.turned {CW CH : Addr} {i : Nat} {τ : Tg} {H H' : Hp} {W : WAd} {S : WkS} {k : Nat} {A : HAd} {s : HandS} {r : Rw} (w : WAt CW CH i τ H W S) (eA : W.hd[k]? = some A) (es : S.hs[k]? = some s) (er : s.rws[s.pos]? = some r)
    (kp : ∀ x u, H x = some u → x ≠ W.nb → x ≠ A.b → x ≠ A.h → x ≠ A.sy → x ≠ W.tn → H' x = some u) (c : HdC CH H' A (goneS S.ns s r)) (hnb : H' W.nb = some (.lst ((cellsR S.ns s.bs r).map V.int))) (htn : H' W.tn = some (.lst ((S.ts ++ [(k : Int)]).map V.int))) : WAt CW CH i τ H' W (turnS S k) ∧ Stp i τ H H' := by
  have a := w.hd k A s eA es
  have tup : ∀ x xs, H x = some (.tup xs) → H' x = some (.tup xs) := fun x xs e => kp _ _ e (ne_of e w.nb (by intro z; cases z)) (ne_of e a.c.b (by intro z; cases z)) (ne_of e a.c.h (by intro z; cases z)) (ne_of e a.c.y (by intro z; cases z)) (ne_of e w.tn (by intro z; cases z))
  have st : Stp i τ H H' := by
    refine ⟨fun x u e n => ?_, tup, fun x e => ?_⟩
    · have ne : ∀ (y : Addr) (t : List Nat), τ y = i :: t → x ≠ y := fun y t ty z => n (by rw [z, ty]; rfl)
      exact kp _ _ e (ne _ _ w.tb) (ne _ _ a.tb) (ne _ _ a.th) (ne _ _ a.ty) (ne _ _ w.tt)
    · cases q : H x with
      | none => rfl
      | some u =>
        have no : ∀ y o, H' y = some o → x ≠ y := fun y o h z => by rw [z, h] at e; cases e
        rw [kp _ _ q (no _ _ hnb) (no _ _ c.b) (no _ _ c.h) (no _ _ c.y) (no _ _ htn)] at e
        cases e
  refine ⟨?_, st⟩
  have q : MvT [[i, 1], [i, 5, k], [i, 4, k], [i, 6, k], [i, 3]] τ H τ H' := by
    refine ⟨fun x u e n => ⟨?_, rfl⟩, tup⟩
    have ne : ∀ (y : Addr) (t : List Nat), τ y = t → t ∈ [[i, 1], [i, 5, k], [i, 4, k], [i, 6, k], [i, 3]] → x ≠ y := fun y t ty ht z => n (by rw [z, ty]; exact ht)
    exact kp _ _ e (ne _ _ w.tb (by simp)) (ne _ _ a.tb (by simp)) (ne _ _ a.th (by simp)) (ne _ _ a.ty (by simp)) (ne _ _ w.tt (by simp))
  have i0 := w.i0
  have z0 : [0] ∉ [[i, 1], [i, 5, k], [i, 4, k], [i, 6, k], [i, 3]] := by simp
  rw [turnS_eq es er]
  have hk : k < S.hs.length := (List.getElem?_eq_some_iff.mp es).1
  have get : ∀ (j : Nat) (s' : HandS), (S.hs.set k (goneS S.ns s r))[j]? = some s' → (j = k ∧ s' = goneS S.ns s r) ∨ (j ≠ k ∧ S.hs[j]? = some s') := fun j s' e => by
    rw [List.getElem?_set] at e
    by_cases z : k = j
    · subst z
      simp [hk] at e
      exact .inl ⟨rfl, e.symm⟩
    · rw [if_neg z] at e
      exact .inr ⟨fun y => z y.symm, e⟩
  have gr : (goneS S.ns s r).rws = s.rws := led_rws _ _
  have mem : ∀ s' ∈ S.hs.set k (goneS S.ns s r), s' = goneS S.ns s r ∨ s' ∈ S.hs := fun s' m => (List.mem_or_eq_of_mem_set m).symm
  refine ⟨st.un w.un, i0, (q.keep _ _ w.o (by rw [w.to]; simp)).1, tup _ _ w.pg, (q.keep _ _ w.L (by rw [w.tL]; exact z0)).1, hnb, (q.keep _ _ w.hl (by rw [w.tl]; simp)).1, htn, w.to, w.tb, w.tl, w.tt, w.tL, ?_, ?_, ?_, ?_, ?_, ?_, ?_, ?_⟩
  · simp [w.rl]
  · intro j r' s' h1 h2
    rcases get j s' h2 with ⟨rfl, rfl⟩ | ⟨_, h2⟩
    · rw [gr]
      exact rows_mvT (w.rs j r' s h1 es) q z0
    · exact rows_mvT (w.rs j r' s' h1 h2) q z0
  · simp [w.len]
  · intro j A' s' h1 h2
    rcases get j s' h2 with ⟨rfl, rfl⟩ | ⟨nj, h2⟩
    · rw [eA] at h1
      cases h1
      refine ⟨c, ?_, a.tr, a.th, a.tb, a.ty⟩
      rw [gr]
      exact (rows_mvT ⟨a.tr, a.r⟩ q z0).2
    · exact (w.hd j A' s' h1 h2).mvT q z0 (by simp [nj]) (by simp [nj]) (by simp [nj])
  · intro s' m
    rcases mem s' m with rfl | m
    · exact led_ok _ _
    · exact w.ok s' m
  · intro s' m
    simp only [List.length_append, List.length_singleton]
    rcases mem s' m with rfl | m
    · have := led_sy 60 { s with pos := s.pos + 1, bs := boxesR S.ns s.bs r }
      have := w.sl s (List.mem_of_getElem? es)
      show (led 60 _).sy.length ≤ _
      simp only at *
      omega
    · have := w.sl s' m
      omega
  · show (cellsR S.ns s.bs r).length = S.m
    rw [cellsR_len, w.nl]
  · simp [w.hn]
theorem ok_turn {C_Works C_Hand C_NoHand C_Over : Addr} {f : Addr} {fd : FuncData} (F : Fun K "turn" "Works.turn" s_Works_turn f fd) (M_Works_hand_of : MethAtX P w K mg base 3 C_Works "hand_of" ["self", "hand"] (spHandOf C_Works C_Hand C_NoHand K)) (M_Works_touch_by : MethAt P w K mg base 4 C_Works "touch_by" ["self", "one"] (spTouchBy C_Works C_Hand K)) (M_Hand_lead_on : MethAt P w K mg base 6 C_Hand "lead_on" ["self"] (spLead C_Hand K)) (Z_Works : Cl_Works K C_Works) (Z_Hand : Cl_Hand K C_Hand) (X_Over : Xr K mg C_Over "Over") : FnOk P w K mg base (CX1 P w) 7 f fd ["self", "hand"] (spTurn C_Works C_Hand C_NoHand C_Over K) := by
  refine F.okX sc_Works_turn (fun vs H Q E h => ?_) (fun cdv A outer s H vs Q E hr h hR => ?_)
  · obtain ⟨i, τ, W, S, h, rfl, _⟩ := h
    rfl
  · obtain ⟨i, τ, W, S, h, rfl, w, tl, k1, k2, k3⟩ := h
    refine ⟨_, (pss_cons (ps_set (i := 2) sc_Works_turn.nd rfl (Or.inl rfl) (pe_methX M_Works_hand_of Z_Works.cls rfl hR (hr.mono (by decide)) (pv 0) (pa_cons (pv 1) pa_nil)))
      (pss_cons (ps_if (pt_cmpR op_ne (pe_fldK (K := K) rfl (pv 2) rfl) pe_str (nomark _)) (pss_one (ps_raise PySem.F.excBase_ValueError X_Over.ex X_Over.bd (by rfl) rfl rfl hR (pa_cons pe_str pa_nil))) pss_nil)
      (pss_cons (ps_set (i := 3) sc_Works_turn.nd rfl (Or.inl rfl) (pe_methA M_Works_touch_by Z_Works.cls (hr.mono (by decide)) (pv 0) (pa_cons (pv 2) pa_nil)))
      (pss_cons (ps_fldaugK (K := K) rfl (pv 2) pe_int ip_add)
      (pss_cons (ps_expr (pe_methA0 M_Hand_lead_on Z_Hand.cls (hr.mono (by decide)) (pv 2)))
      (pss_cons (ps_expr (pe_appendK (K := K) rfl (pe_fldK (K := K) rfl (pv 0) rfl) (pa_cons (pv 1) pa_nil)))
      (pss_one (ps_ret (pv 3))))))))), ?_⟩
    refine ⟨_, rfl, W.o, W.dx, _, rfl, w.o, rfl, _, rfl, i, τ, W, S, h, rfl, w, fun k A s e eA es => ?_, k2⟩
    have a := w.hd k A s eA es
    refine ⟨_, rfl, A.h, C_Hand, A.hx, _, _, rfl, a.c.h, Z_Hand.cls, Z_Hand.n_state, rfl, rfl, _, rfl, ?_⟩
    by_cases wt : s.st = "waits"
    rotate_left
    · refine ite2 (fun _ => ?_) (fun z => absurd (by simp [wt]) z)
      exact ⟨(by show 1 ≤ sizeLine; decide), k3 k s e es wt⟩
    refine iteNS (by rw [wt]) ?_
    obtain ⟨r, er, tr⟩ := w.ok s (List.mem_of_getElem? es) wt
    have nnb : W.nb ≠ A.b := ne_tag w.tb a.tb (by simp)
    have nny : W.nb ≠ A.sy := ne_tag w.tb a.ty (by simp)
    refine ⟨_, rfl, W.o, W.dx, _, rfl, w.o, rfl, _, rfl, W.o, W.dx, W.pg, W.nb, W.hl, W.tn, A, s, S.m, S.ns, r, rfl, w.o, w.nb, w.nl, a.c, a.r, er, tr, nnb, nny, fun t H1 tf t1 c1 nb1 p1 => ?_⟩
    refine ⟨_, rfl, A.h, C_Hand, A.hx, _, _, rfl, c1.h, Z_Hand.cls, Z_Hand.n_at, rfl, _, _, rfl, rfl, A.hx, _, c1.h, (by show 5 < 1000; decide), ?_⟩
    rw [put_at]
    have c2 := c1.seth (s.pos + 1) s.st
    have p2 : KH A H1 (upd H1 A.h (.ins C_Hand A.hx (hF A.r ((s.pos + 1 : Nat) : Int) A.b A.sy s.st))) := KH.seth
    have t2 := c1.tup p2 _ _ t1
    dsimp only
    rw [show ((s.pos : Nat) : Int) + 1 = ((s.pos + 1 : Nat) : Int) by omega]
    generalize (upd H1 A.h (.ins C_Hand A.hx (hF A.r ((s.pos + 1 : Nat) : Int) A.b A.sy s.st))) = H2 at c2 p2 t2 ⊢
    have nrb : A.r ≠ A.b := ne_tag a.tr a.tb (by intro z; cases z)
    have nry : A.r ≠ A.sy := ne_tag a.tr a.ty (by intro z; cases z)
    have nrh : A.r ≠ A.h := ne_tag a.tr a.th (by intro z; cases z)
    have nrn : A.r ≠ W.nb := ne_tag a.tr w.tb (by intro z; cases z)
    have tup2 : ∀ x xs, H x = some (.tup xs) → H2 x = some (.tup xs) := fun x xs q => c1.tup p2 _ _ (p1 _ _ q (ne_of q w.nb (by intro z; cases z)) (ne_of q a.c.b (by intro z; cases z)))
    have R2 : RowsH H2 A.r S.m s.rws := a.r.keep (fun o q => p2 _ _ (p1 _ _ q nrn nrb) nrh nrb nry) tup2
    have sl := w.sl s (List.mem_of_getElem? es)
    refine ⟨_, rfl, A.h, A.hx, _, rfl, c2.h, rfl, A, _, S.m, rfl, c2, R2, nrb, nry, by show s.sy.length < _; omega, fun H3 c3 p3 => ?_⟩
    have k13 : ∀ x u, H x = some u → x ≠ W.nb → x ≠ A.b → x ≠ A.h → x ≠ A.sy → H3 x = some u := fun x u q n1 n2 n3 n4 => p3 _ _ (p2 _ _ (p1 _ _ q n1 n2) n3 n2 n4) n3 n2 n4
    have o3 := k13 _ _ w.o (ne_tag w.to w.tb (by simp)) (ne_tag w.to a.tb (by simp)) (ne_tag w.to a.th (by simp)) (ne_tag w.to a.ty (by simp))
    have tn3 := k13 _ _ w.tn (ne_tag w.tt w.tb (by simp)) (ne_tag w.tt a.tb (by simp)) (ne_tag w.tt a.th (by simp)) (ne_tag w.tt a.ty (by simp))
    have nb3 := p3 _ _ (p2 _ _ nb1 (ne_tag w.tb a.th (by simp)) nnb nny) (ne_tag w.tb a.th (by simp)) nnb nny
    have t3 := c2.tup p3 _ _ t2
    refine ⟨_, rfl, W.o, C_Works, W.dx, _, _, rfl, o3, Z_Works.cls, Z_Works.n_turns, rfl, .inl ⟨rfl, _, SqL.of tn3⟩, _, rfl, _, _, _, rfl, rfl, tn3, (by rw [List.length_map, sizeLine_eq]; omega), ?_⟩
    have k14 : ∀ x u, H x = some u → x ≠ W.nb → x ≠ A.b → x ≠ A.h → x ≠ A.sy → x ≠ W.tn → (upd H3 W.tn (.lst (S.ts.map V.int ++ [V.int h]))) x = some u := fun x u q n1 n2 n3 n4 n5 => by rw [upd_ne n5]; exact k13 x u q n1 n2 n3 n4
    have nbt : W.nb ≠ W.tn := ne_tag w.tb w.tt (by simp)
    have c4 : HdC C_Hand (upd H3 W.tn (.lst (S.ts.map V.int ++ [V.int h]))) A (goneS S.ns s r) := ⟨by rw [upd_ne (ne_tag a.th w.tt (by simp))]; exact c3.h, by rw [upd_ne (ne_tag a.tb w.tt (by simp))]; exact c3.b, by rw [upd_ne (ne_tag a.ty w.tt (by simp))]; exact c3.y, c3.nby, c3.bl⟩
    obtain ⟨w4, st⟩ := w.turned (H' := upd H3 W.tn (.lst (S.ts.map V.int ++ [V.int h]))) eA es er k14 c4 (by rw [upd_ne nbt]; exact nb3) (by rw [upd_same, List.map_append, e]; rfl)
    refine ⟨_, rfl, k1 k s r t _ e es wt er tr tf ?_ w4 st⟩
    rw [upd_ne (ne_of t3 tn3 (by intro z; cases z))]
    exact t3

/-! a works made -/
/-- while a works is made: what was there stays -/
structure Bs (H0 : Hp) (τ0 : Tg) (o : Addr) (τ : Tg) (H : Hp) : Prop where
  un : Unt τ H
  kp : Kp o H0 H
  tg : ∀ x u, H0 x = some u → x ≠ o → τ x = τ0 x
theorem Bs.same {H0 H H' : Hp} {τ0 τ : Tg} {o : Addr} (b : Bs H0 τ0 o τ H) (k : Same H H') : Bs H0 τ0 o τ H' := ⟨b.un.same k, b.kp.trans (Kp.of_same k), b.tg⟩
theorem Bs.claim {H0 H H' : Hp} {τ0 τ : Tg} {o p : Addr} {t : List Nat} (b : Bs H0 τ0 o τ H) (k : Same H H') (hp : H p = none) (hp' : ∃ u, H' p = some u) : Bs H0 τ0 o (tgSet τ p t) H' :=
  ⟨b.un.claim k hp', b.kp.trans (Kp.of_same k), fun x u e n => by rw [tgSet_ne (ne_of_none (b.kp _ _ e n) hp)]; exact b.tg x u e n⟩
theorem Bs.set {H0 H : Hp} {τ0 τ : Tg} {o x : Addr} {v : HO} (b : Bs H0 τ0 o τ H) (hx : x = o ∨ H0 x = none) : Bs H0 τ0 o τ (upd H x v) :=
  ⟨b.un.dom (fun y e => by
    by_cases z : y = x
    · rw [z, upd_same] at e; cases e
    · rw [upd_ne z] at e; exact e), fun y u e n => by
    have z : y ≠ x := by
      rcases hx with rfl | hx
      · exact n
      · exact ne_of_none e hx
    rw [upd_ne z]; exact b.kp _ _ e n, b.tg⟩
theorem Bs.fresh {H0 H : Hp} {τ0 τ : Tg} {o p : Addr} (b : Bs H0 τ0 o τ H) (hp : H p = none) (n : p ≠ o) : H0 p = none := kp_none b.kp n hp
def spWInit (CW CH CN : Addr) (K : PySem.W.Frag) : Sp := fun vs H Q E => ∃ (i : Nat) (τ : Tg) (o dx p L0 : Addr) (rs0 : List Addr) (m : Nat) (cv : V) (ns : List Int) (rws : List (List Rw)), vs = [.ref o, .ref p, cv] ∧ H o = some (.ins CW dx []) ∧ H p = some (.tup [.int m, .ref L0]) ∧ H L0 = some (.lst (rs0.map V.ref)) ∧ rs0.length = rws.length ∧
  (∀ (k : Nat) (r : Addr) (x : List Rw), rs0[k]? = some r → rws[k]? = some x → RowsH H r m x) ∧ rws.length ≤ 100 ∧ m ≤ 100 ∧ Unt τ H ∧ i ≠ 0 ∧ ns.length ≤ 100 ∧ ((cv = .non ∧ ns = List.replicate m 0) ∨ ∃ cl, cv = .ref cl ∧ H cl = some (.lst (ns.map V.int))) ∧
  (numOkL m ns → ∀ (τ' : Tg) (W : WAd) (H' : Hp), W.o = o → WAt CW CH i τ' H' W (begS m ns rws) → (∀ x u, H x = some u → x ≠ o → τ' x = τ x) → Kp o H H' → Q .non H') ∧ (¬ numOkL m ns → ∀ H', Kp o H H' → E (.ref CN) none H')
theorem get_snoc {α : Type} {l : List α} {x y : α} {k : Nat} (h : (l ++ [x])[k]? = some y) : l[k]? = some y ∨ (k = l.length ∧ y = x) := by
  by_cases e : k < l.length
  · rw [List.getElem?_append_left e] at h
    exact .inl h
  · rw [List.getElem?_append_right (by omega)] at h
    have lt := (List.getElem?_eq_some_iff.mp h).1
    simp at lt
    have : k = l.length := by omega
    subst this
    simp at h
    exact .inr ⟨rfl, h.symm⟩
theorem ok_winit {C_Works C_Hand : Addr} {f : Addr} {fd : FuncData} (F : FunD K "__init__" "Works.__init__" s_Works_init [.none] f fd) (Z_Works : Cl_Works K C_Works) (Z_Hand : Cl_Hand K C_Hand) {C_NoNumber : Addr} (F_check_numbers : FnAtX P w K mg base 3 "check_numbers" ["cells", "count"] (spCheckNum C_NoNumber K)) (N_Hand : MakeAt P w K mg base 1 C_Hand "Hand" ["self", "rows"] [] (spHInit C_Hand K)) (M_Hand_lead_on : MethAt P w K mg base 6 C_Hand "lead_on" ["self"] (spLead C_Hand K)) (Bt : Blt mg) : FnOk P w K mg base (CX1 P w) 7 f fd ["self", "program", "cells"] (spWInit C_Works C_Hand C_NoNumber K) := by
  refine F.okX sc_Works_init (fun vs H Q E h => ?_) (fun cdv A outer s H vs Q E hr h hR => ?_)
  · obtain ⟨i, τ, o, dx, p, L0, rs0, m, cv, ns, rws, rfl, _⟩ := h
    rfl
  · obtain ⟨i, τ, o, dx, p, L0, rs0, m, cv, ns, rws, rfl, ho, hp, hL, lr, hrows, rl, ml, un, i0, nl, hcv, k1, k2⟩ := h
    refine ⟨_, (pss_cons (ps_if (pt_cmpR op_isN (pv 2) pe_non (nomark _)) (pss_one (ps_setC (i := 2) rfl sc_Works_init.nd rfl (Or.inl rfl) (N := ["cell"]) (own := ["cell"]) (caps := []) (CompScope.of (by kernel_rfl)) (pi_range1 (by rfl) Bt.b_range (pa_cons (pe_ix (ix_tupK (K := K) rfl) (pv 1) pe_int (fun _ _ => rfl)) pa_nil)) (fun _ _ _ _ => (pg_name (i := 0) (show List.Nodup (["cell"] : List Str) by decide +kernel) rfl (Or.inl rfl))) (fun _ _ _ _ => pts_nil) (fun _ _ _ _ => pe_int))) pss_nil)
      (pss_cons (ps_expr (pe_fnX F_check_numbers rfl hR (hr.mono (by decide)) (by rfl) (pa_cons (pv 2) (pa_cons (pe_ix (ix_tupK (K := K) rfl) (pv 1) pe_int (fun _ _ => rfl)) pa_nil))))
      (pss_cons (ps_fldK (K := K) rfl (pv 0) (pe_tup (pa_cons (pe_ix (ix_tupK (K := K) rfl) (pv 1) pe_int (fun _ _ => rfl)) (pa_cons (pe_comp rfl (N := ["rows"]) (own := ["rows"]) (caps := []) (CompScope.of (by kernel_rfl)) (pi_listK (K := K) rfl (pe_ix (ix_tupK (K := K) rfl) (pv 1) pe_int (fun _ _ => rfl))) (fun _ _ _ _ => (pg_name (i := 0) (show List.Nodup (["rows"] : List Str) by decide +kernel) rfl (Or.inl rfl))) (fun _ _ _ _ => pts_nil) (fun _ _ _ _ => (pe_callTy (call_list_ofK (K := K) rfl) (by rfl) Bt.b_list bt_list (pa_cons (pv 0) pa_nil)))) pa_nil))) rfl)
      (pss_cons (ps_fldK (K := K) rfl (pv 0) (pe_callTy (call_list_ofK (K := K) rfl) (by rfl) Bt.b_list bt_list (pa_cons (pv 2) pa_nil)) rfl)
      (pss_cons (ps_fldK (K := K) rfl (pv 0) (pe_comp rfl (N := ["rows"]) (own := ["rows"]) (caps := []) (CompScope.of (by kernel_rfl)) (pi_listK (K := K) rfl (pe_ix (ix_tupK (K := K) rfl) (pe_fldK (K := K) rfl (pv 0) rfl) pe_int (fun _ _ => rfl))) (fun _ _ _ _ => (pg_name (i := 0) (show List.Nodup (["rows"] : List Str) by decide +kernel) rfl (Or.inl rfl))) (fun _ _ _ _ => pts_nil) (fun _ _ _ _ => (pe_makeA N_Hand (hr.mono (by decide)) (by rfl) (pa_cons (pv 0) pa_nil)))) rfl)
      (pss_cons (ps_fldK (K := K) rfl (pv 0) (pe_lst pa_nil) rfl)
      (pss_one (ps_for PassesOwn.leaving rfl (pi_listK (K := K) rfl (pe_fldK (K := K) rfl (pv 0) rfl)) (pg_name (i := 3) sc_Works_init.nd rfl (Or.inl rfl))
      (pss_one (ps_expr (pe_methA0 M_Hand_lead_on Z_Hand.cls (hr.mono (by decide)) (pv 3)))))))))))), ?_⟩
    refine seq_cps (fun σ H1 => ∃ cl : Addr, σ = [some (.ref o), some (.ref p), some (.ref cl), none] ∧ H1 cl = some (.lst (ns.map V.int)) ∧ Same H H1) (fun D' hD' rt' => ?_) ?_
    · refine ⟨_, rfl, rfl, _, rfl, ?_⟩
      rcases hcv with ⟨rfl, rfl⟩ | ⟨cl, rfl, hcl⟩
      · refine iteT ?_
        refine ⟨_, rfl, _, _, _, _, rfl, rfl, SqT.of hp, rfl, _, rfl, by omega, by omega, fun D hD => ?_⟩
        rw [Int.toNat_natCast]
        refine comp_valR (fun _ => some (.int 0)) hD (by omega) (fun i H1 G F hi s1 kG kF => kF _ H1 (Same.refl _) rfl) (fun H1 s1 e1 => ?_)
        rw [fm_zero] at e1
        exact hD' _ _ ⟨D, rfl, e1, s1⟩
      · refine iteF ?_
        exact hD' _ _ ⟨cl, rfl, hcl, Same.refl _⟩
    rintro σ H1 ⟨cl, rfl, hcl, s1⟩
    have hp1 := s1 _ _ hp
    refine seq_one (fun R g => ?_)
    refine ⟨_, rfl, _, rfl, _, _, _, _, rfl, rfl, SqT.of hp1, rfl, cl, m, ns, rfl, hcl, nl, fun good H2 s2 => ?_, fun bad H2 s2 => k2 bad H2 (Kp.of_same (s1.trans s2))⟩
    refine g _ _ ?_
    have s02 := s1.trans s2
    have ho2 := s02 _ _ ho
    have hp2 := s02 _ _ hp
    have hL2 := s02 _ _ hL
    have hcl2 := s2 _ _ hcl
    have hrows2 : ∀ (k : Nat) (r : Addr) (x : List Rw), rs0[k]? = some r → rws[k]? = some x → RowsH H2 r m x := fun k r x a b => (hrows k r x a b).same s02
    -- the works is tagged ahead
    have B2 : Bs H τ o (tgSet τ o [i, 0]) H2 := ⟨fun x e => by rw [tgSet_ne (ne_of_none ho2 e).symm]; exact un.same s02 x e, Kp.of_same s02, fun x u e n => tgSet_ne n⟩
    have to2 : tgSet τ o [i, 0] o = [i, 0] := tgSet_same
    generalize tgSet τ o [i, 0] = τ2 at B2 to2
    -- self.program
    refine seq_one (fun R g => ?_)
    refine ⟨_, rfl, _, _, _, _, rfl, rfl, SqT.of hp2, rfl, _, rfl, _, _, _, _, rfl, rfl, SqT.of hp2, rfl, L0, rfl, ⟨_, SqL.of hL2⟩, fun L hLn => ?_⟩
    have sL := same_new (o := HO.lst []) hLn
    have nLo : L ≠ o := (ne_of_none ho2 hLn).symm
    refine comp_list (K := K) (xs := rs0.map V.ref) (fun j σ Hc => ∃ (v : Option V) (τc : Tg) (rs : List Addr), σ = [v] ∧ rs.length = j ∧ Same H2 Hc ∧ Hc L = some (.lst (rs.map V.ref)) ∧ Bs H τ o τc Hc ∧ τc o = [i, 0] ∧ τc L = [0] ∧ ∀ (k : Nat) (r : Addr) (x : List Rw), rs[k]? = some r → rws[k]? = some x → r ≠ L ∧ τc r = [0] ∧ RowsH Hc r m x) ?_ ?_ ?_ ?_
    · exact ⟨none, tgSet τ2 L [0], [], rfl, rfl, sL, upd_same, B2.claim sL hLn ⟨_, upd_same⟩, by rw [tgSet_ne nLo.symm]; exact to2, tgSet_same, fun k r x h => by simp at h⟩
    · rintro j σ Hc hj ⟨v, τc, rs, rfl, _, sc, _⟩
      exact SqL.of (sc _ _ hL2)
    · rintro j x σ Hc hj ⟨v, τc, rs, rfl, lj, sc, hLc, Bc, toc, tLc, hc⟩
      rw [List.getElem?_map] at hj
      obtain ⟨r0, er0, rfl⟩ : ∃ r0, rs0[j]? = some r0 ∧ x = .ref r0 := by
        cases e : rs0[j]? with
        | none => rw [e] at hj; cases hj
        | some r0 => rw [e] at hj; exact ⟨r0, rfl, (Option.some.inj hj).symm⟩
      have jl : j < rws.length := by rw [← lr]; exact (List.getElem?_eq_some_iff.mp er0).1
      have ex : rws[j]? = some rws[j] := by simp [jl]
      have rr := hrows2 j r0 _ er0 ex
      obtain ⟨ts, hts, dts, rq, rl'⟩ := rr
      dsimp only [gName, tAll]
      rw [if_pos rfl]
      refine ⟨_, rfl, r0, _, rfl, .inl (SqL.of (sc _ _ hts)), fun r hrn => ?_⟩
      have sr := same_new (o := HO.lst ts) hrn
      have nrL : r ≠ L := (ne_of_none hLc hrn).symm
      have nro : r ≠ o := (ne_of_none (sc _ _ ho2) hrn).symm
      have hLf : H L = none := s02.free hLn
      refine ⟨rs.map V.ref, sr _ _ hLc, (by rw [List.length_map, sizeLine_eq]; omega), some (.ref r0), tgSet τc r [0], rs ++ [r], rfl, by simp [lj], fun y u e => ?_, by rw [upd_same]; simp, (Bc.claim sr hrn ⟨_, upd_same⟩).set (.inr hLf), ?_, ?_, ?_⟩
      · rw [upd_ne (ne_of_none e hLn)]
        exact sr _ _ (sc _ _ e)
      · rw [tgSet_ne nro.symm]; exact toc
      · rw [tgSet_ne nrL.symm]; exact tLc
      · intro k r' x' h1 h2
        have tups : ∀ y ys, Hc y = some (.tup ys) → (upd (upd Hc r (.lst ts)) L (.lst (rs.map V.ref ++ [V.ref r]))) y = some (.tup ys) := fun y ys e => by
          rw [upd_ne (ne_of e hLc (by intro z; cases z))]
          exact sr _ _ e
        rcases get_snoc h1 with h1 | ⟨e1, rfl⟩
        · obtain ⟨n1, t1, R1⟩ := hc k r' x' h1 h2
          have rr := R1
          obtain ⟨ts', hr', _⟩ := rr
          have n2 : r' ≠ r := ne_of_none hr' hrn
          refine ⟨n1, by rw [tgSet_ne n2]; exact t1, R1.keep (fun u e => ?_) tups⟩
          rw [upd_ne n1]
          exact sr _ _ e
        · rw [e1, lj, ex] at h2
          cases h2
          refine ⟨nrL, tgSet_same, ts, by rw [upd_ne nrL, upd_same], ?_, rq, rl'⟩
          exact dts.keep (fun y ys e => tups _ _ (sc _ _ e)) _ (imms_rws _)
    rintro σ H3 ⟨v, τ3, rs, rfl, lrs, s23, hL3, B3, to3, tL3, hr3⟩
    rw [List.length_map] at lrs
    have ho3 := s23 _ _ ho2
    refine ⟨(by show 2 ≤ sizeLine; decide), fun pg hpg => ?_⟩
    have spg := same_new (o := HO.tup [V.int m, V.ref L]) hpg
    refine ⟨_, rfl, o, C_Works, dx, _, rfl, spg _ _ ho3, Z_Works.cls, Z_Works.n_program, (by show 0 < 1000; decide), ?_⟩
    refine g _ _ ?_
    have npgo : pg ≠ o := (ne_of_none ho3 hpg).symm
    have ho4 : (upd (upd H3 pg (.tup [V.int m, V.ref L])) o (.ins C_Works dx (putF "program" (.ref pg) []))) o = some (.ins C_Works dx [("program", .ref pg)]) := upd_same
    have hpg4 : (upd (upd H3 pg (.tup [V.int m, V.ref L])) o (.ins C_Works dx (putF "program" (.ref pg) []))) pg = some (.tup [V.int m, V.ref L]) := by rw [upd_ne npgo, upd_same]
    have q4 : MvT [[i, 0]] τ3 H3 τ3 (upd (upd H3 pg (.tup [V.int m, V.ref L])) o (.ins C_Works dx (putF "program" (.ref pg) []))) := (MvT.of_same spg).trans (MvT.set (by rw [to3]; simp) (spg _ _ ho3) (by intro xs z; cases z))
    have B4 : Bs H τ o τ3 (upd (upd H3 pg (.tup [V.int m, V.ref L])) o (.ins C_Works dx (putF "program" (.ref pg) []))) := (B3.same spg).set (.inl rfl)
    have kp4 : Kp o H3 (upd (upd H3 pg (.tup [V.int m, V.ref L])) o (.ins C_Works dx (putF "program" (.ref pg) []))) := (Kp.of_same spg).trans Kp.set
    generalize (upd (upd H3 pg (.tup [V.int m, V.ref L])) o (.ins C_Works dx (putF "program" (.ref pg) []))) = H4 at ho4 hpg4 q4 B4 kp4 ⊢
    have hL4 := (q4.keep _ _ hL3 (by rw [tL3]; simp)).1
    have hr4 : ∀ (k : Nat) (r : Addr) (x : List Rw), rs[k]? = some r → rws[k]? = some x → τ3 r = [0] ∧ RowsH H4 r m x := fun k r x h1 h2 => rows_mvT ⟨(hr3 k r x h1 h2).2.1, (hr3 k r x h1 h2).2.2⟩ q4 (by simp)
    have nclo : cl ≠ o := ne_of hcl2 ho2 (by intro z; cases z)
    have hcl4 := kp4 _ _ (s23 _ _ hcl2) nclo
    -- self.numbers
    refine seq_one (fun R g => ?_)
    refine ⟨_, rfl, cl, _, rfl, .inl (SqL.of hcl4), fun nb hnb => ?_⟩
    have snb := same_new (o := HO.lst (ns.map V.int)) hnb
    refine ⟨_, rfl, o, C_Works, dx, _, rfl, snb _ _ ho4, Z_Works.cls, Z_Works.n_numbers, (by show 1 < 1000; decide), ?_⟩
    refine g _ _ ?_
    have nnbo : nb ≠ o := (ne_of_none ho4 hnb).symm
    have ho5 : (upd (upd H4 nb (.lst (ns.map V.int))) o (.ins C_Works dx (putF "numbers" (.ref nb) [("program", .ref pg)]))) o = some (.ins C_Works dx [("program", .ref pg), ("numbers", .ref nb)]) := upd_same
    have hnb5 : (upd (upd H4 nb (.lst (ns.map V.int))) o (.ins C_Works dx (putF "numbers" (.ref nb) [("program", .ref pg)]))) nb = some (.lst (ns.map V.int)) := by rw [upd_ne nnbo, upd_same]
    have q5 : MvT [[i, 0]] τ3 H4 (tgSet τ3 nb [i, 1]) (upd (upd H4 nb (.lst (ns.map V.int))) o (.ins C_Works dx (putF "numbers" (.ref nb) [("program", .ref pg)]))) := (MvT.claim snb hnb).trans (MvT.set (by rw [tgSet_ne nnbo.symm, to3]; simp) (snb _ _ ho4) (by intro xs z; cases z))
    have B5 : Bs H τ o (tgSet τ3 nb [i, 1]) (upd (upd H4 nb (.lst (ns.map V.int))) o (.ins C_Works dx (putF "numbers" (.ref nb) [("program", .ref pg)]))) := (B4.claim snb hnb ⟨_, upd_same⟩).set (.inl rfl)
    have to5 : tgSet τ3 nb [i, 1] o = [i, 0] := by rw [tgSet_ne nnbo.symm]; exact to3
    have tn5 : tgSet τ3 nb [i, 1] nb = [i, 1] := tgSet_same
    generalize (upd (upd H4 nb (.lst (ns.map V.int))) o (.ins C_Works dx (putF "numbers" (.ref nb) [("program", .ref pg)]))) = H5 at ho5 hnb5 q5 B5 ⊢
    generalize tgSet τ3 nb [i, 1] = τ5 at q5 B5 to5 tn5
    have hL5 := q5.keep _ _ hL4 (by rw [tL3]; simp)
    have hr5 : ∀ (k : Nat) (r : Addr) (x : List Rw), rs[k]? = some r → rws[k]? = some x → τ5 r = [0] ∧ RowsH H5 r m x := fun k r x h1 h2 => rows_mvT (hr4 k r x h1 h2) q5 (by simp)
    have hpg5 := q5.tup _ _ hpg4
    have tL5 : τ5 L = [0] := hL5.2.trans tL3
    have hL5 := hL5.1
    -- self.hands
    refine seq_one (fun R g => ?_)
    refine ⟨_, rfl, o, C_Works, dx, _, _, rfl, ho5, Z_Works.cls, Z_Works.n_program, rfl, _, _, _, _, rfl, rfl, SqT.of hpg5, rfl, L, rfl, ⟨_, SqL.of hL5⟩, fun hl hhl => ?_⟩
    have shl := same_new (o := HO.lst []) hhl
    have nhlo : hl ≠ o := (ne_of_none ho5 hhl).symm
    refine comp_list (K := K) (xs := rs.map V.ref) (fun j σ Hc => ∃ (v : Option V) (τc : Tg) (hd : List HAd), σ = [v] ∧ hd.length = j ∧ Same H5 Hc ∧ Hc hl = some (.lst (hd.map fun a => .ref a.h)) ∧ Bs H τ o τc Hc ∧ (∀ x u, H5 x = some u → τc x = τ5 x) ∧ τc hl = [i, 2] ∧ ∀ (k : Nat) (A : HAd) (x : List Rw), hd[k]? = some A → rws[k]? = some x → HdAt C_Hand i k m τc Hc A (new x) ∧ H A.h = none ∧ H A.b = none ∧ H A.sy = none) ?_ ?_ ?_ ?_
    · exact ⟨none, tgSet τ5 hl [i, 2], [], rfl, rfl, shl, upd_same, B5.claim shl hhl ⟨_, upd_same⟩, fun x u e => tgSet_ne (ne_of_none e hhl), tgSet_same, fun k A x h => by simp at h⟩
    · rintro j σ Hc hj ⟨v, τc, hd, rfl, _, sc, _⟩
      exact SqL.of (sc _ _ hL5)
    · rintro j x σ Hc hj ⟨v, τc, hd, rfl, lj, sc, hlc, Bc, tgc, tlc, hc⟩
      rw [List.getElem?_map] at hj
      obtain ⟨r, er, rfl⟩ : ∃ r, rs[j]? = some r ∧ x = .ref r := by
        cases e : rs[j]? with
        | none => rw [e] at hj; cases hj
        | some r0 => rw [e] at hj; exact ⟨r0, rfl, (Option.some.inj hj).symm⟩
      have jl : j < rws.length := by rw [← lr, ← lrs]; exact (List.getElem?_eq_some_iff.mp er).1
      have ex : rws[j]? = some rws[j] := by simp [jl]
      obtain ⟨tr, R⟩ := hr5 j r _ er ex
      have rr := R
      obtain ⟨ts, hts, _⟩ := rr
      dsimp only [gName, tAll]
      rw [if_pos rfl]
      refine ⟨_, rfl, fun h hx hn hxn nhx => ?_⟩
      have hn' : (upd Hc hx (.own h)) h = none := by rw [upd_ne nhx.symm]; exact hn
      have sm : Same Hc (upd (upd Hc hx (.own h)) h (.ins C_Hand hx [])) := (same_new hxn).trans (same_new hn')
      refine ⟨h, r, hx, rfl, upd_same, fun b sy H7 hb hsy nbsy h7 b7 sy7 k7 => ⟨rfl, ?_⟩⟩
      have S7 : Same Hc H7 := fun y u e => k7 _ _ (sm _ _ e) (ne_of_none e hn)
      have fb : Hc b = none := sm.free hb
      have fy : Hc sy = none := sm.free hsy
      have nhl : hl ≠ h := ne_of_none hlc hn
      have nbl : hl ≠ b := ne_of_none hlc fb
      have nyl : hl ≠ sy := ne_of_none hlc fy
      have nhb : h ≠ b := ne_of_none upd_same hb
      have nhy : h ≠ sy := ne_of_none upd_same hsy
      have hlf : H hl = none := B5.fresh hhl nhlo
      have sH : Same Hc Hc := Same.refl _
      have T : ∀ x u, Hc x = some u → tgSet (tgSet (tgSet τc h [i, 4, j]) b [i, 5, j]) sy [i, 6, j] x = τc x := fun y u e => by rw [tgSet_ne (ne_of_none e fy), tgSet_ne (ne_of_none e fb), tgSet_ne (ne_of_none e hn)]
      have B7 : Bs H τ o (tgSet (tgSet (tgSet τc h [i, 4, j]) b [i, 5, j]) sy [i, 6, j]) H7 := by
        refine ⟨fun y e => ?_, Bc.kp.trans (Kp.of_same S7), fun y u e n => ?_⟩
        · have n1 : y ≠ h := fun z => by rw [z, h7] at e; cases e
          have n2 : y ≠ b := fun z => by rw [z, b7] at e; cases e
          have n3 : y ≠ sy := fun z => by rw [z, sy7] at e; cases e
          rw [tgSet_ne n3, tgSet_ne n2, tgSet_ne n1]
          exact Bc.un y (S7.free e)
        · rw [T y u (Bc.kp _ _ e n)]
          exact Bc.tg y u e n
      have q7 : MvT [[i, 2]] τc Hc (tgSet (tgSet (tgSet τc h [i, 4, j]) b [i, 5, j]) sy [i, 6, j]) (upd H7 hl (.lst ((hd.map fun a => V.ref a.h) ++ [V.ref h]))) := by
        refine ⟨fun y u e n => ⟨?_, T y u e⟩, fun y ys e => ?_⟩
        · rw [upd_ne (fun z : y = hl => n (by rw [z, tlc]; simp))]
          exact S7 _ _ e
        · rw [upd_ne (ne_of e hlc (by intro z; cases z))]
          exact S7 _ _ e
      have Th : tgSet (tgSet (tgSet τc h [i, 4, j]) b [i, 5, j]) sy [i, 6, j] h = [i, 4, j] := by rw [tgSet_ne nhy, tgSet_ne nhb, tgSet_same]
      have Tb : tgSet (tgSet (tgSet τc h [i, 4, j]) b [i, 5, j]) sy [i, 6, j] b = [i, 5, j] := by rw [tgSet_ne nbsy, tgSet_same]
      have Ty : tgSet (tgSet (tgSet τc h [i, 4, j]) b [i, 5, j]) sy [i, 6, j] sy = [i, 6, j] := tgSet_same
      generalize tgSet (tgSet (tgSet τc h [i, 4, j]) b [i, 5, j]) sy [i, 6, j] = τ7 at T B7 q7 Th Tb Ty
      refine ⟨_, S7 _ _ hlc, (by rw [List.length_map, sizeLine_eq]; omega), some (.ref r), τ7, hd ++ [⟨h, hx, r, b, sy⟩], rfl, by simp [lj], fun y u e => ?_, by rw [upd_same]; simp, B7.set (.inr hlf), fun y u e => ?_, ?_, ?_⟩
      · rw [upd_ne (ne_of_none e hhl)]
        exact S7 _ _ (sc _ _ e)
      · rw [T y u (sc _ _ e)]
        exact tgc y u e
      · rw [T _ _ hlc]; exact tlc
      · intro k A x' h1 h2
        rcases get_snoc h1 with h1 | ⟨e1, rfl⟩
        · exact ⟨(hc k A x' h1 h2).1.mvT q7 (by simp) (by simp) (by simp) (by simp), (hc k A x' h1 h2).2⟩
        · rw [e1, lj, ex] at h2
          cases h2
          rw [e1, lj]
          have tr' : τc r = [0] := by rw [tgc _ _ hts]; exact tr
          obtain ⟨t9, R9⟩ := rows_mvT ⟨tr', R.same sc⟩ q7 (by simp)
          have hoc := sc _ _ ho5
          exact ⟨⟨⟨by rw [upd_ne nhl.symm]; exact h7, by rw [upd_ne nbl.symm]; exact b7, by rw [upd_ne nyl.symm]; exact sy7, nbsy, rfl⟩, R9, t9, Th, Tb, Ty⟩, Bc.fresh hn (ne_of_none hoc hn).symm, Bc.fresh fb (ne_of_none hoc fb).symm, Bc.fresh fy (ne_of_none hoc fy).symm⟩
    rintro σ H8 ⟨v, τ8, hd, rfl, lhd, s58, hhl8, B8, tg8, tl8, hd8⟩
    rw [List.length_map] at lhd
    have ho8 := s58 _ _ ho5
    have to8 : τ8 o = [i, 0] := by rw [tg8 _ _ ho5]; exact to5
    refine ⟨_, rfl, o, C_Works, dx, _, rfl, ho8, Z_Works.cls, Z_Works.n_hands, (by show 2 < 1000; decide), ?_⟩
    refine g _ _ ?_
    have ho9 : (upd H8 o (.ins C_Works dx (putF "hands" (.ref hl) [("program", .ref pg), ("numbers", .ref nb)]))) o = some (.ins C_Works dx [("program", .ref pg), ("numbers", .ref nb), ("hands", .ref hl)]) := upd_same
    have q9 : MvT [[i, 0]] τ8 H8 τ8 (upd H8 o (.ins C_Works dx (putF "hands" (.ref hl) [("program", .ref pg), ("numbers", .ref nb)]))) := MvT.set (by rw [to8]; simp) ho8 (by intro xs z; cases z)
    have B9 : Bs H τ o τ8 (upd H8 o (.ins C_Works dx (putF "hands" (.ref hl) [("program", .ref pg), ("numbers", .ref nb)]))) := B8.set (.inl rfl)
    generalize (upd H8 o (.ins C_Works dx (putF "hands" (.ref hl) [("program", .ref pg), ("numbers", .ref nb)]))) = H9 at ho9 q9 B9 ⊢
    -- self.turns
    refine seq_one (fun R g => ?_)
    refine ⟨(by show 0 ≤ sizeLine; decide), fun tn htn => ?_⟩
    have stn := same_new (o := HO.lst []) htn
    refine ⟨_, rfl, o, C_Works, dx, _, rfl, stn _ _ ho9, Z_Works.cls, Z_Works.n_turns, (by show 3 < 1000; decide), ?_⟩
    refine g _ _ ?_
    have ntno : tn ≠ o := (ne_of_none ho9 htn).symm
    have ho10 : (upd (upd H9 tn (.lst [])) o (.ins C_Works dx (putF "turns" (.ref tn) [("program", .ref pg), ("numbers", .ref nb), ("hands", .ref hl)]))) o = some (.ins C_Works dx (wF pg nb hl tn)) := upd_same
    have htn10 : (upd (upd H9 tn (.lst [])) o (.ins C_Works dx (putF "turns" (.ref tn) [("program", .ref pg), ("numbers", .ref nb), ("hands", .ref hl)]))) tn = some (.lst []) := by rw [upd_ne ntno, upd_same]
    have q10 : MvT [[i, 0]] τ8 H9 (tgSet τ8 tn [i, 3]) (upd (upd H9 tn (.lst [])) o (.ins C_Works dx (putF "turns" (.ref tn) [("program", .ref pg), ("numbers", .ref nb), ("hands", .ref hl)]))) := (MvT.claim stn htn).trans (MvT.set (by rw [tgSet_ne ntno.symm, to8]; simp) (stn _ _ ho9) (by intro xs z; cases z))
    have B10 : Bs H τ o (tgSet τ8 tn [i, 3]) (upd (upd H9 tn (.lst [])) o (.ins C_Works dx (putF "turns" (.ref tn) [("program", .ref pg), ("numbers", .ref nb), ("hands", .ref hl)]))) := (B9.claim stn htn ⟨_, upd_same⟩).set (.inl rfl)
    have to10 : tgSet τ8 tn [i, 3] o = [i, 0] := by rw [tgSet_ne ntno.symm]; exact to8
    have tt10 : tgSet τ8 tn [i, 3] tn = [i, 3] := tgSet_same
    have q810 := q9.trans q10
    generalize (upd (upd H9 tn (.lst [])) o (.ins C_Works dx (putF "turns" (.ref tn) [("program", .ref pg), ("numbers", .ref nb), ("hands", .ref hl)]))) = H10 at ho10 htn10 q10 B10 q810 ⊢
    generalize tgSet τ8 tn [i, 3] = τ10 at q10 B10 to10 tt10 q810
    have hhl10 := q810.keep _ _ hhl8 (by rw [tl8]; simp)
    have tl10 : τ10 hl = [i, 2] := hhl10.2.trans tl8
    have hhl10 := hhl10.1
    have n5 : ∀ x u, H5 x = some u → τ5 x ≠ [i, 0] → H10 x = some u ∧ τ10 x = τ5 x := fun x u e n => by
      have := q810.keep _ _ (s58 _ _ e) (by rw [tg8 _ _ e]; simp [n])
      exact ⟨this.1, by rw [this.2, tg8 _ _ e]⟩
    have hL10 := n5 _ _ hL5 (by rw [tL5]; simp)
    have hnb10 := n5 _ _ hnb5 (by rw [tn5]; simp)
    have hpg10 := q810.tup _ _ (s58 _ _ hpg5)
    have hd10 : ∀ (k : Nat) (A : HAd) (x : List Rw), hd[k]? = some A → rws[k]? = some x → HdAt C_Hand i k m τ10 H10 A (new x) := fun k A x h1 h2 => (hd8 k A x h1 h2).1.mvT q810 (by simp) (by simp) (by simp) (by simp)
    have hr10 : ∀ (k : Nat) (r : Addr) (x : List Rw), rs[k]? = some r → rws[k]? = some x → τ10 r = [0] ∧ RowsH H10 r m x := fun k r x h1 h2 => by
      obtain ⟨t5, R5⟩ := hr5 k r x h1 h2
      have rr := R5
      obtain ⟨ts, hts, _⟩ := rr
      exact rows_mvT ⟨by rw [tg8 _ _ hts]; exact t5, R5.same s58⟩ q810 (by simp)
    have lh : hd.length = rws.length := by rw [lhd, lrs, lr]
    -- led on
    refine ⟨_, rfl, o, C_Works, dx, _, _, rfl, ho10, Z_Works.cls, Z_Works.n_hands, rfl, hl, rfl, ⟨_, SqL.of hhl10⟩, ?_⟩
    refine for_list (K := K) (a := hl) (xs := hd.map fun a => V.ref a.h) (fun j σ Hc => ∃ x1 : Option V, σ = [some (.ref o), some (.ref p), some (.ref cl), x1] ∧ (∀ x u, H10 x = some u → (∀ k, τ10 x ≠ [i, 4, k]) → (∀ k, τ10 x ≠ [i, 5, k]) → (∀ k, τ10 x ≠ [i, 6, k]) → Hc x = some u) ∧ (∀ x ys, H10 x = some (.tup ys) → Hc x = some (.tup ys)) ∧ Bs H τ o τ10 Hc ∧
      ∀ (k : Nat) (A : HAd) (x : List Rw), hd[k]? = some A → rws[k]? = some x → HdAt C_Hand i k m τ10 Hc A (if k < j then lead (new x) else new x))
      ⟨none, rfl, fun x u e _ _ _ => e, fun x ys e => e, B10, fun k A x h1 h2 => by rw [if_neg (by omega)]; exact hd10 k A x h1 h2⟩ (fun j σ Hc _ ⟨_, _, kc, _⟩ => SqL.of (kc _ _ hhl10 (by rw [tl10]; simp) (by rw [tl10]; simp) (by rw [tl10]; simp))) ?_ ?_
    · rintro j v σ Hc hj ⟨x1, rfl, kc, tc, Bc, hc⟩
      rw [List.getElem?_map] at hj
      obtain ⟨A, eA, rfl⟩ : ∃ A, hd[j]? = some A ∧ v = .ref A.h := by
        cases e : hd[j]? with
        | none => rw [e] at hj; cases hj
        | some A => rw [e] at hj; exact ⟨A, rfl, (Option.some.inj hj).symm⟩
      have jl : j < rws.length := by rw [← lh]; exact (List.getElem?_eq_some_iff.mp eA).1
      have ex : rws[j]? = some rws[j] := by simp [jl]
      have a := hc j A _ eA ex
      rw [if_neg (by omega)] at a
      refine ⟨_, rfl, A.h, A.hx, _, rfl, a.c.h, rfl, A, _, m, rfl, a.c, a.r, ne_tag a.tr a.tb (by intro z; cases z), ne_tag a.tr a.ty (by intro z; cases z), (by show 0 < 900000; decide), fun H12 c12 k12 => ?_⟩
      have q12 : MvT [[i, 4, j], [i, 5, j], [i, 6, j]] τ10 Hc τ10 H12 := ⟨fun x u e n => ⟨k12 _ _ e (fun z => n (by rw [z, a.th]; simp)) (fun z => n (by rw [z, a.tb]; simp)) (fun z => n (by rw [z, a.ty]; simp)), rfl⟩, a.c.tup k12⟩
      refine ⟨_, rfl, fun x u e n4 n5 n6 => (q12.keep _ _ (kc x u e n4 n5 n6) (by simp [n4, n5, n6])).1, fun x ys e => q12.tup _ _ (tc _ _ e), ?_, ?_⟩
      · obtain ⟨f1, f2, f3⟩ := (hd8 j A _ eA ex).2
        refine ⟨Bc.un.dom fun x e => ?_, fun x u e n => k12 _ _ (Bc.kp _ _ e n) (ne_of_none e f1) (ne_of_none e f2) (ne_of_none e f3), Bc.tg⟩
        cases q : Hc x with
        | none => rfl
        | some u =>
          have no : ∀ y o, H12 y = some o → x ≠ y := fun y o h z => by rw [z, h] at e; cases e
          rw [k12 _ _ q (no _ _ c12.h) (no _ _ c12.b) (no _ _ c12.y)] at e
          cases e
      · intro k A' x h1 h2
        by_cases z : k = j
        · subst z
          rw [eA] at h1
          cases h1
          rw [ex] at h2
          cases h2
          rw [if_pos (by omega)]
          have lr' : (lead (new rws[k])).rws = rws[k] := led_rws _ _
          refine ⟨c12, ?_, a.tr, a.th, a.tb, a.ty⟩
          rw [lr']
          exact (rows_mvT ⟨a.tr, a.r⟩ q12 (by simp)).2
        · have b := (hc k A' x h1 h2).mvT q12 (by simp) (by simp [z]) (by simp [z]) (by simp [z])
          by_cases lt : k < j
          · rw [if_pos lt] at b
            rw [if_pos (by omega)]
            exact b
          · rw [if_neg lt] at b
            rw [if_neg (by omega)]
            exact b
    · rintro σ H11 ⟨x1, rfl, kc, tc, Bc, hc⟩
      rw [List.length_map] at hc
      have kt : ∀ x u t, H10 x = some u → τ10 x = t → (∀ k, t ≠ [i, 4, k]) → (∀ k, t ≠ [i, 5, k]) → (∀ k, t ≠ [i, 6, k]) → H11 x = some u := fun x u t e et n4 n5 n6 => kc x u e (by rw [et]; exact n4) (by rw [et]; exact n5) (by rw [et]; exact n6)
      have tL10 : τ10 L = [0] := hL10.2.trans tL5
      have tn10 : τ10 nb = [i, 1] := hnb10.2.trans tn5
      have get : ∀ (k : Nat) (s : HandS), (rws.map fun r => lead (new r))[k]? = some s → ∃ x, rws[k]? = some x ∧ s = lead (new x) := fun k s e => by
        rw [List.getElem?_map] at e
        cases q : rws[k]? with
        | none => rw [q] at e; cases e
        | some x => rw [q] at e; exact ⟨x, rfl, (Option.some.inj e).symm⟩
      refine k1 good τ10 ⟨o, dx, pg, L, nb, hl, tn, rs, hd⟩ H11 rfl ⟨Bc.un, i0, kt _ _ _ ho10 to10 (by simp) (by simp) (by simp), tc _ _ hpg10, kt _ _ _ hL10.1 tL10 (by simp) (by simp) (by simp), kt _ _ _ hnb10.1 tn10 (by simp) (by simp) (by simp), kt _ _ _ hhl10 tl10 (by simp) (by simp) (by simp), kt _ _ _ htn10 tt10 (by simp) (by simp) (by simp), to10, tn10, tl10, tt10, tL10, ?_, ?_, ?_, ?_, ?_, ?_, ?_, ?_⟩ Bc.tg Bc.kp
      · show rs.length = (rws.map _).length
        rw [List.length_map, lrs, lr]
      · intro k r s h1 h2
        obtain ⟨x, ex, rfl⟩ := get k s h2
        obtain ⟨t1, R1⟩ := hr10 k r x h1 ex
        have lr' : (lead (new x)).rws = x := led_rws _ _
        rw [lr']
        exact ⟨t1, R1.keep (fun u e => kt _ _ _ e t1 (by simp) (by simp) (by simp)) tc⟩
      · show hd.length = (rws.map _).length
        rw [List.length_map, lh]
      · intro k A s h1 h2
        obtain ⟨x, ex, rfl⟩ := get k s h2
        have := hc k A x h1 ex
        rw [if_pos (List.getElem?_eq_some_iff.mp h1).1] at this
        exact this
      · intro s ms
        obtain ⟨x, _, rfl⟩ := List.mem_map.mp ms
        exact led_ok _ _
      · intro s ms
        obtain ⟨x, _, rfl⟩ := List.mem_map.mp ms
        exact led_sy 60 (new x)
      · have := good.1
        show ns.length = m
        omega
      · show (rws.map _).length ≤ 100
        rw [List.length_map]
        exact rl

/-! ### the reel beside what is tagged -/
structure RT (τ : Tg) (H : Hp) (r : Addr) : Prop where
  R : ReelP H r
  off : ∀ x o, H x = some o → τ x ≠ [] → x ≠ r ∧ Off H r x
  un : Unt τ H
theorem RT.draw {τ : Tg} {H H' : Hp} {r : Addr} (h : RT τ H r) (k : KR r H H') (R' : ReelP H' r) : RT τ H' r := by
  have un' : Unt τ H' := h.un.dom fun x e => by
    refine Kp.new k.1 e ?_
    exact R'.at
  refine ⟨R', fun x o e t => ?_, un'⟩
  cases q : H x with
  | none => exact absurd (h.un x q) t
  | some u =>
    obtain ⟨n, f⟩ := h.off x u q t
    exact ⟨n, k.2 x u q n f⟩
theorem RT.stp {τ : Tg} {H H' : Hp} {r : Addr} {i : Nat} (h : RT τ H r) (k : Stp i τ H H') : RT τ H' r := by
  obtain ⟨g, c, gs, cs, p, t, e1, e2, e3, q⟩ := h.R
  have tr : τ r = [] := by
    by_cases z : τ r = []
    · exact z
    · exact absurd rfl (h.off r _ e1 z).1
  have tg : τ g = [] := by
    by_cases z : τ g = []
    · exact z
    · exact absurd rfl ((h.off g _ e2 z).2 _ _ _ _ e1).1
  have tc : τ c = [] := by
    by_cases z : τ c = []
    · exact z
    · exact absurd rfl ((h.off c _ e3 z).2 _ _ _ _ e1).2
  have e1' := k.keep _ _ e1 (by rw [tr]; simp)
  refine ⟨⟨g, c, gs, cs, p, t, e1', k.keep _ _ e2 (by rw [tg]; simp), k.keep _ _ e3 (by rw [tc]; simp), q⟩, fun x o e t => ?_, h.un.dom k.dom⟩
  cases q : H x with
  | none => exact absurd (h.un x q) t
  | some u =>
    obtain ⟨n, f⟩ := h.off x u q t
    refine ⟨n, fun g' c' u' v' e' => ?_⟩
    rw [e1'] at e'
    cases e'
    exact f _ _ _ _ e1
theorem RT.same {τ : Tg} {H H' : Hp} {r : Addr} (h : RT τ H r) (k : Same H H') : RT τ H' r := h.stp (i := 0) (Stp.of_same k)
/-- a draw changes nothing that is tagged -/
theorem RT.kr {τ : Tg} {H H' : Hp} {r : Addr} {i : Nat} (h : RT τ H r) (k : KR r H H') : Mv i τ H τ H' := ⟨fun x o e t => ⟨k.1 _ _ e (h.off x o e (by
  rcases t with t | t
  · rw [t]; simp
  · intro z; rw [z] at t; cases t)).1, rfl⟩, h.R.tups k.1⟩
theorem RT.keep {τ : Tg} {H H' : Hp} {r x : Addr} {o : HO} (h : RT τ H r) (k : KR r H H') (e : H x = some o) (t : τ x ≠ []) : H' x = some o := k.1 _ _ e (h.off x o e t).1
theorem RT.claim {τ : Tg} {H H' : Hp} {r p : Addr} {t : List Nat} (h : RT τ H r) (k : Same H H') (hp : H p = none) (hp' : ∃ o, H' p = some o) : RT (tgSet τ p t) H' r := by
  have h' := h.same k
  refine ⟨h'.R, fun x o e n => ?_, h.un.claim k hp'⟩
  by_cases z : x = p
  · subst z
    exact ⟨h.R.ne hp, (h.R.off hp).same h.R k⟩
  · rw [tgSet_ne z] at n
    exact h'.off x o e n
/-- behind a works made -/
theorem RT.made {τ τ' : Tg} {H H' : Hp} {r : Addr} (h : RT τ H r) (k : Same H H') (tg : ∀ x u, H x = some u → τ' x = τ x) (un : Unt τ' H') : RT τ' H' r := by
  have h' := h.same k
  refine ⟨h'.R, fun x o e n => ?_, un⟩
  cases q : H x with
  | some u => exact h'.off x o e (by rw [← tg x u q]; exact n)
  | none => exact ⟨h.R.ne q, (h.R.off q).same h.R k⟩

/-! ### rows as data -/
section
variable {H : Hp} {p : Addr} {x y : V} {b c n : Nat} {e f : Exx}
theorem dat_swap (h : H p = some (.tup [.str "swap", .str (bxS b), .int c, x])) (d : Dat H x (exD e)) : Dat H (.ref p) (rwD (.swap b c e)) := by
  simp only [rwD, Dat]; exact ⟨p, _, rfl, h, by simp only [Dats, Dat, and_true, true_and]; exact d⟩
theorem dat_let (h : H p = some (.tup [.str "let", .str (bxS b), x])) (d : Dat H x (exD e)) : Dat H (.ref p) (rwD (.lett b e)) := by
  simp only [rwD, Dat]; exact ⟨p, _, rfl, h, by simp only [Dats, Dat, and_true, true_and]; exact d⟩
theorem dat_go (h : H p = some (.tup [.str "go", .int n])) : Dat H (.ref p) (rwD (.go n)) := by
  simp only [rwD, Dat]; exact ⟨p, _, rfl, h, by simp only [Dats, Dat, and_true]⟩
theorem dat_unl {q : Bool} (h : H p = some (.tup [.str "unless", .str (if q then "=" else "<"), x, y, .int n])) (d : Dat H x (exD e)) (d' : Dat H y (exD f)) : Dat H (.ref p) (rwD (.unl q e f n)) := by
  simp only [rwD, Dat]; exact ⟨p, _, rfl, h, by simp only [Dats, Dat, and_true, true_and]; exact ⟨d, d'⟩⟩
end

theorem RT.set {τ : Tg} {H : Hp} {r x : Addr} {o u : HO} (h : RT τ H r) (e : H x = some o) (t : τ x ≠ []) : RT τ (upd H x u) r := by
  obtain ⟨n, f⟩ := h.off x o e t
  refine ⟨h.R.set n f, fun y v ey ty => ?_, fun y ey => ?_⟩
  · by_cases z : y = x
    · subst z
      exact ⟨n, f.set n⟩
    · rw [upd_ne z] at ey
      obtain ⟨n', f'⟩ := h.off y v ey ty
      exact ⟨n', f'.set n⟩
  · by_cases z : y = x
    · rw [z, upd_same] at ey; cases ey
    · rw [upd_ne z] at ey; exact h.un y ey

/-! ### programs that only swap -/
def body85 (a m : Nat) : Rw → Prop
  | .swap b c (.one (.box d)) => d = b ∧ b < 8 ∧ c < m
  | .unl _ (.one (.box b)) (.one (.box d)) k => b < 8 ∧ d < 8 ∧ a ≤ k
  | .go k => a ≤ k
  | _ => False
def lets85 (ls : List (Nat × Int)) : List Rw := ls.map fun p => Rw.lett p.1 (.one (.num p.2))
def bx85 (ls : List (Nat × Int)) : List Int := ls.foldl (fun bs p => bs.set p.1 p.2) (List.replicate 8 0)
def ok85 (p : Nat × Int) : Prop := p.1 < 8 ∧ 0 ≤ p.2 ∧ p.2 < 1000
def Ok85 (m : Nat) (rws : List Rw) (bx : List Int) : Prop := ∃ ls bd, rws = lets85 ls ++ bd ∧ bx = bx85 ls ∧ ls.length ≤ 8 ∧ (∀ p ∈ ls, ok85 p) ∧ ∀ r ∈ bd, body85 ls.length m r
theorem bx85_len (ls : List (Nat × Int)) : (bx85 ls).length = 8 := by
  unfold bx85
  have : ∀ (l : List (Nat × Int)) (bs : List Int), (l.foldl (fun bs p => bs.set p.1 p.2) bs).length = bs.length := fun l => by
    induction l with
    | nil => intro bs; rfl
    | cons p l ih => intro bs; rw [List.foldl_cons, ih, List.length_set]
  rw [this]; rfl
theorem bx85_snoc (ls : List (Nat × Int)) (p : Nat × Int) : bx85 (ls ++ [p]) = (bx85 ls).set p.1 p.2 := by
  unfold bx85
  rw [List.foldl_append]; rfl
structure H85 (m a : Nat) (s : HandS) : Prop where
  pos : a ≤ s.pos
  bl : s.bs.length = 8
  row : ∀ (k : Nat) (r : Rw), a ≤ k → s.rws[k]? = some r → body85 a m r
theorem row85 {a m : Nat} {r : Rw} {s : HandS} (h : body85 a m r) (nt : touch r = false) (ha : a ≤ s.pos) : a ≤ (doRow s r).pos ∧ (doRow s r).bs = s.bs := by
  cases r with
  | load b c => cases nt
  | store c e => cases nt
  | swap b c e => cases nt
  | lett b e => exact h.elim
  | say e => exact h.elim
  | go k => exact ⟨h, rfl⟩
  | unl q e f k =>
    refine ⟨?_, rfl⟩
    have hk : a ≤ k := by
      cases e with
      | two => exact h.elim
      | one x =>
        cases x with
        | num => exact h.elim
        | box b =>
          cases f with
          | two => exact h.elim
          | one y =>
            cases y with
            | num => exact h.elim
            | box d => exact h.2.2
    show a ≤ (if holdsR s.bs (.unl q e f k) then s.pos + 1 else k)
    split
    · omega
    · exact hk
theorem led85 {a m : Nat} : ∀ (n : Nat) (s : HandS), H85 m a s → H85 m a (led n s) ∧ (led n s).bs = s.bs
  | 0, s, h => by
    unfold led
    split
    · exact ⟨⟨h.pos, h.bl, h.row⟩, rfl⟩
    · split <;> exact ⟨⟨h.pos, h.bl, h.row⟩, rfl⟩
  | n + 1, s, h => by
    unfold led
    split
    · exact ⟨⟨h.pos, h.bl, h.row⟩, rfl⟩
    · rename_i r er
      split
      · exact ⟨⟨h.pos, h.bl, h.row⟩, rfl⟩
      · rename_i nt
        obtain ⟨h1, h2⟩ := row85 (s := s) (h.row _ _ h.pos er) (by simpa using nt) h.pos
        have := led85 (a := a) (m := m) n (doRow s r) ⟨h1, by rw [h2]; exact h.bl, by rw [doRow_rws]; exact h.row⟩
        exact ⟨this.1, this.2.trans h2⟩
theorem letsLed (bd : List Rw) (st : Str) : ∀ (l2 l1 : List (Nat × Int)) (n : Nat), (∀ p ∈ l2, ok85 p) → led (n + l2.length) ⟨lets85 (l1 ++ l2) ++ bd, l1.length, bx85 l1, [], st⟩ = led n ⟨lets85 (l1 ++ l2) ++ bd, (l1 ++ l2).length, bx85 (l1 ++ l2), [], st⟩
  | [], l1, n, _ => by simp
  | p :: l2, l1, n, h => by
    obtain ⟨p1, p2, p3⟩ := h p (by simp)
    have er : (lets85 (l1 ++ p :: l2) ++ bd)[l1.length]? = some (Rw.lett p.1 (.one (.num p.2))) := by
      unfold lets85
      rw [List.getElem?_append_left (by simp), List.map_append, List.getElem?_append_right (by simp)]
      simp
    rw [List.length_cons, ← Nat.add_assoc]
    have step : led (n + l2.length + 1) ⟨lets85 (l1 ++ p :: l2) ++ bd, l1.length, bx85 l1, [], st⟩ = led (n + l2.length) ⟨lets85 (l1 ++ p :: l2) ++ bd, l1.length + 1, (bx85 l1).set p.1 (p.2 % 1000), [], st⟩ := by
      rw [led]
      simp only [er]
      rfl
    rw [step, Int.emod_eq_of_lt p2 p3, ← bx85_snoc]
    have ih := letsLed bd st l2 (l1 ++ [p]) n fun q hq => h q (by simp [hq])
    rw [show l1 ++ [p] ++ l2 = l1 ++ p :: l2 by simp, show (l1 ++ [p]).length = l1.length + 1 by simp] at ih
    exact ih
theorem beg85 {m : Nat} {rws : List Rw} {bx : List Int} (h : Ok85 m rws bx) : (∃ a, H85 m a (lead (new rws))) ∧ (lead (new rws)).bs = bx := by
  obtain ⟨ls, bd, rfl, rfl, l8, hl, hb⟩ := h
  have e := letsLed bd "waits" ls [] (60 - ls.length) hl
  rw [show 60 - ls.length + ls.length = 60 by omega] at e
  have e' : lead (new (lets85 ls ++ bd)) = led (60 - ls.length) ⟨lets85 ls ++ bd, ls.length, bx85 ls, [], "waits"⟩ := e
  rw [e']
  have := led85 (a := ls.length) (m := m) (60 - ls.length) ⟨lets85 ls ++ bd, ls.length, bx85 ls, [], "waits"⟩ ⟨Nat.le_refl _, bx85_len ls, fun k r hk er => ?_⟩
  · exact ⟨⟨_, this.1⟩, this.2⟩
  · have er : (lets85 ls ++ bd)[k]? = some r := er
    rw [List.getElem?_append_right (by unfold lets85; rw [List.length_map]; exact hk)] at er
    exact hb r (List.mem_of_getElem? er)
/-- a touch is a swap -/
theorem touch85 {a m : Nat} {r : Rw} (h : body85 a m r) (t : touch r = true) : ∃ b c, r = .swap b c (.one (.box b)) ∧ b < 8 ∧ c < m := by
  cases r with
  | swap b c e =>
    cases e with
    | two => exact h.elim
    | one x =>
      cases x with
      | num => exact h.elim
      | box d => obtain ⟨rfl, h2, h3⟩ := h; exact ⟨d, c, rfl, h2, h3⟩
  | load b c => exact h.elim
  | store c e => exact h.elim
  | lett => cases t
  | say => cases t
  | go => cases t
  | unl => cases t
def Inv85 (S : WkS) : Prop := S.ns.length = S.m ∧ ∀ s ∈ S.hs, ∃ a, H85 S.m a s
def bss85 (S : WkS) : List (List Int) := S.hs.map HandS.bs
theorem turn85 {S : WkS} {k : Nat} {s : HandS} {r : Rw} (I : Inv85 S) (es : S.hs[k]? = some s) (er : s.rws[s.pos]? = some r) (t : touch r = true) :
    ∃ (b c : Nat) (x y : Int), r = .swap b c (.one (.box b)) ∧ b < 8 ∧ S.ns[c]? = some x ∧ s.bs[b]? = some y ∧ s.bs.length = 8 ∧ touchV S.ns s.bs r = [.str "swap", .int c, .int x, .int y] ∧ (turnS S k).ns = S.ns.set c y ∧ bss85 (turnS S k) = (bss85 S).set k (s.bs.set b x) ∧ Inv85 (turnS S k) ∧ (turnS S k).hs.length = S.hs.length := by
  obtain ⟨a, h⟩ := I.2 s (List.mem_of_getElem? es)
  obtain ⟨b, c, rfl, b8, cm⟩ := touch85 (h.row _ _ h.pos er) t
  have lc : c < S.ns.length := by rw [I.1]; exact cm
  have lb : b < s.bs.length := by rw [h.bl]; exact b8
  have vy : vx s.bs (.one (.box b)) = s.bs[b] := by show (s.bs[b]?).getD 0 = _; simp [lb]
  have g := led85 (a := a) (m := S.m) 60 { s with pos := s.pos + 1, bs := s.bs.set b S.ns[c] } ⟨Nat.le_succ_of_le h.pos, by rw [List.length_set]; exact h.bl, h.row⟩
  have eg : goneS S.ns s (.swap b c (.one (.box b))) = led 60 { s with pos := s.pos + 1, bs := s.bs.set b S.ns[c] } := by
    unfold goneS lead boxesR
    simp [lc]
  refine ⟨b, c, S.ns[c], s.bs[b], rfl, b8, by simp [lc], by simp [lb], h.bl, ?_, ?_, ?_, ?_, ?_⟩
  · show [V.str "swap", V.int c, oV (S.ns[c]?), oV (some (vx s.bs (.one (.box b))))] = _
    rw [vy, List.getElem?_eq_getElem lc]
    rfl
  · rw [turnS_eq es er]
    show S.ns.set c (vx s.bs _) = _
    rw [vy]
  · rw [turnS_eq es er]
    unfold bss85
    simp only
    rw [List.map_set, eg, g.2]
  · rw [turnS_eq es er]
    refine ⟨?_, fun s' hs' => ?_⟩
    · show (cellsR S.ns s.bs (.swap b c (.one (.box b)))).length = S.m
      rw [cellsR_len]; exact I.1
    · rcases List.mem_or_eq_of_mem_set hs' with hs' | rfl
      · exact I.2 s' hs'
      · rw [eg]; exact ⟨a, g.1⟩
  · rw [turnS_eq es er]; simp
/-- what is exchanged is the same in all -/
theorem perm_set {l : List Int} {i : Nat} {x y : Int} (e : l[i]? = some x) : (x :: l.set i y).Perm (y :: l) := by
  induction l generalizing i with
  | nil => simp at e
  | cons z l ih =>
    cases i with
    | zero =>
      simp only [List.getElem?_cons_zero, Option.some.injEq] at e
      subst e
      exact List.Perm.swap _ _ _
    | succ i =>
      simp only [List.getElem?_cons_succ] at e
      rw [List.set_cons_succ]
      exact (List.Perm.swap _ _ _).trans (((ih e).cons z).trans (List.Perm.swap _ _ _))
theorem perm_flat {bss : List (List Int)} {k : Nat} {l l' : List Int} {x y : Int} (e : bss[k]? = some l) (p : (y :: l').Perm (x :: l)) : (y :: (bss.set k l').flatten).Perm (x :: bss.flatten) := by
  induction bss generalizing k with
  | nil => simp at e
  | cons b bss ih =>
    cases k with
    | zero =>
      simp only [List.getElem?_cons_zero, Option.some.injEq] at e
      subst e
      simp only [List.set_cons_zero, List.flatten_cons]
      exact (p.append_right _ : (y :: l' ++ bss.flatten).Perm (x :: b ++ bss.flatten))
    | succ k =>
      simp only [List.getElem?_cons_succ] at e
      have := ih e
      simp only [List.set_cons_succ, List.flatten_cons]
      exact (List.perm_middle.symm.trans (this.append_left b)).trans List.perm_middle
theorem perm85 {ns : List Int} {bss : List (List Int)} {k b c : Nat} {l : List Int} {x y : Int} (e1 : ns[c]? = some x) (e2 : bss[k]? = some l) (e3 : l[b]? = some y) : (ns.set c y ++ (bss.set k (l.set b x)).flatten).Perm (ns ++ bss.flatten) := by
  have p1 := perm_set (y := y) e1
  have p2 := perm_flat e2 (perm_set (y := x) e3)
  have q : (x :: y :: (ns.set c y ++ (bss.set k (l.set b x)).flatten)).Perm (x :: y :: (ns ++ bss.flatten)) := by
    have a1 : ((x :: ns.set c y) ++ (y :: (bss.set k (l.set b x)).flatten)).Perm ((y :: ns) ++ (x :: bss.flatten)) := p1.append p2
    have a2 : (x :: y :: (ns.set c y ++ (bss.set k (l.set b x)).flatten)).Perm ((x :: ns.set c y) ++ (y :: (bss.set k (l.set b x)).flatten)) := (List.perm_middle.symm : (y :: (ns.set c y ++ (bss.set k (l.set b x)).flatten)).Perm (ns.set c y ++ y :: (bss.set k (l.set b x)).flatten)).cons x
    have a3 : ((y :: ns) ++ (x :: bss.flatten)).Perm (y :: x :: (ns ++ bss.flatten)) := (List.perm_middle : (ns ++ x :: bss.flatten).Perm (x :: (ns ++ bss.flatten))).cons y
    exact (a2.trans a1).trans (a3.trans (List.Perm.swap _ _ _))
  exact q.cons_inv.cons_inv

theorem box_cp : ∀ b : Fin 8, atI (Str.ofString "abcdefgh").cps.toList ((b.val : Nat) : Int) = some (97 + b.val) := by decide +kernel
theorem box_cp' {i : Int} (h0 : 0 ≤ i) (h1 : i < 8) : atI (Str.ofString "abcdefgh").cps.toList i = some (97 + i.toNat) := by
  have := box_cp ⟨i.toNat, by omega⟩
  simp only [Int.toNat_of_nonneg h0] at this
  exact this
theorem abc_len : (Str.ofString "abcdefgh").length ≤ sizeLine := by rw [sizeLine_eq]; decide
theorem dat_x1 {H : Hp} {p : Addr} {x : Ex1} (h : H p = some (.tup (match x with | .num n => [.str "number", .int n] | .box b => [.str "box", .str (bxS b)]))) : Dat H (.ref p) (x1D x) := by
  cases x <;> simp only [x1D, Dat] <;> refine ⟨p, _, rfl, h, ?_⟩ <;> simp only [Dats, Dat, and_true]

theorem eqlt : ∀ i : Int, i = 0 ∨ i = 1 → atI (Str.ofString "=<").cps.toList i = some (if i = 0 then 61 else 60) := by
  intro i h
  rcases h with rfl | rfl <;> decide +kernel
theorem eqlt_len : (Str.ofString "=<").length ≤ sizeLine := by rw [sizeLine_eq]; decide
theorem ix_in {n i : Nat} (h : i < n) : ixN n (i : Int) = some i := by
  unfold ixN; rw [if_pos (by omega), if_pos (by omega)]; simp
def spRow85 (K : PySem.W.Frag) : Sp := fun vs H Q _ => ∃ (r : Addr) (a n m : Nat), vs = [.ref r, .int a, .int n, .int m] ∧ ReelP H r ∧ n ≤ 100 ∧ 0 < m ∧ m ≤ 20 ∧ ∀ (v : V) (x : Rw) (H' : Hp), Dat H' v (rwD x) → body85 a m x → rwOk m x → ReelP H' r → KR r H H' → Q v H'
theorem ok_row85 {f : Addr} {fd : FuncData} (F : Fun K "_law_row" "_law_row" s_Lrow f fd) (F_Ldraw : FnAt P w K mg base 1 "_law_draw" ["reel", "many"] (spDrawP K)) : FnOk P w K mg base CX0 2 f fd ["reel", "at", "size", "many"] (spRow85 K) := by
  refine F.ok sc_Lrow (fun vs H Q E h => ?_) (fun cdv A outer s H vs Q E hr h => ?_)
  · obtain ⟨r, a, n, m, rfl, _⟩ := h
    rfl
  · obtain ⟨r, a, n, m, rfl, R, n1, m0, m1, k⟩ := h
    refine ⟨_, (pss_cons (ps_set (i := 4) sc_Lrow.nd rfl (Or.inl rfl) (pe_fn F_Ldraw (hr.mono (by decide)) (by rfl) (pa_cons (pv 0) (pa_cons pe_int pa_nil))))
      (pss_cons (ps_set (i := 5) sc_Lrow.nd rfl (Or.inl rfl) (pe_ix ix_str pe_str (pe_fn F_Ldraw (hr.mono (by decide)) (by rfl) (pa_cons (pv 0) (pa_cons pe_int pa_nil))) (fun _ _ => rfl)))
      (pss_cons (ps_set (i := 6) sc_Lrow.nd rfl (Or.inl rfl) (pe_op op_add (pv 1) (pe_fn F_Ldraw (hr.mono (by decide)) (by rfl) (pa_cons (pv 0) (pa_cons (pe_op op_add (pv 2) pe_int) pa_nil)))))
      (pss_cons (ps_if (pt_cmpR op_gt (pv 4) pe_int (nomark _)) (pss_one (ps_ret (pe_tup (pa_cons pe_str (pa_cons (pv 5) (pa_cons (pe_fn F_Ldraw (hr.mono (by decide)) (by rfl) (pa_cons (pv 0) (pa_cons (pv 3) pa_nil))) (pa_cons (pe_tup (pa_cons pe_str (pa_cons (pv 5) pa_nil))) pa_nil))))))) pss_nil)
      (pss_cons (ps_if (pt_cmpR op_eq (pv 4) pe_int (nomark _)) (pss_one (ps_ret (pe_tup (pa_cons pe_str (pa_cons (pe_ix ix_str pe_str (pe_fn F_Ldraw (hr.mono (by decide)) (by rfl) (pa_cons (pv 0) (pa_cons pe_int pa_nil))) (fun _ _ => rfl)) (pa_cons (pe_tup (pa_cons pe_str (pa_cons (pv 5) pa_nil))) (pa_cons (pe_tup (pa_cons pe_str (pa_cons (pe_ix ix_str pe_str (pe_fn F_Ldraw (hr.mono (by decide)) (by rfl) (pa_cons (pv 0) (pa_cons pe_int pa_nil))) (fun _ _ => rfl)) pa_nil))) (pa_cons (pv 6) pa_nil)))))))) pss_nil)
      (pss_one (ps_ret (pe_tup (pa_cons pe_str (pa_cons (pv 6) pa_nil)))))))))), ?_⟩
    refine ⟨_, rfl, r, 4, rfl, R, by decide, by decide, fun kd H1 kd0 kd1 R1 k1 => ?_⟩
    refine ⟨_, rfl, r, 8, rfl, R1, by decide, by decide, fun i H2 i0 i1 R2 k2 => ?_⟩
    refine ⟨_, _, _, rfl, rfl, abc_len, box_cp' i0 (by omega), ?_⟩
    refine ⟨_, rfl, _, rfl, _, rfl, _, _, rfl, rfl, r, _, rfl, R2, by omega, by omega, fun to H3 t0 t1 R3 k3 => ⟨_, _, rfl, rfl, ?_⟩⟩
    obtain ⟨to, rfl⟩ := Int.eq_ofNat_of_zero_le t0
    have K3 : KR r H H3 := (k1.trans k2).trans k3
    have ib : i.toNat < 8 := by omega
    have dbx : ∀ {Hx : Hp} {p : Addr} {j : Nat}, Hx p = some (.tup [.str "box", .str (bxS j)]) → Dat Hx (.ref p) (exD (.one (.box j))) := fun h => dat_x1 (x := .box _) h
    refine ⟨_, rfl, _, _, rfl, rfl, _, rfl, ?_⟩
    refine ite2 (fun _ => ?_) (fun _ => ?_)
    · refine ⟨_, rfl, _, rfl, _, rfl, r, m, rfl, R3, by omega, by omega, fun c H4 c0 c1 R4 k4 => ?_⟩
      obtain ⟨c, rfl⟩ := Int.eq_ofNat_of_zero_le c0
      refine ⟨_, rfl, (by show 2 ≤ sizeLine; decide), fun p hp => ⟨(by show 4 ≤ sizeLine; decide), fun q hq => ?_⟩⟩
      have sp := same_new (o := HO.tup [V.str (Str.ofString "box"), V.str (bxS i.toNat)]) hp
      have sq := same_new (o := HO.tup [V.str (Str.ofString "swap"), V.str (bxS i.toNat), V.int c, V.ref p]) hq
      exact k _ (.swap i.toNat c (.one (.box i.toNat))) _ (dat_swap upd_same (dbx (sq _ _ upd_same))) ⟨rfl, ib, by omega⟩ ⟨ib, by omega, ib⟩ ((R4.keep sp).keep sq) ((K3.trans k4).trans (KR.same R4 (sp.trans sq)))
    refine ⟨_, rfl, rfl, _, rfl, ?_⟩
    refine ite2 (fun _ => ?_) (fun _ => ?_)
    · refine ⟨_, rfl, r, 2, rfl, R3, by decide, by decide, fun z H4 z0 z1 R4 k4 => ?_⟩
      have hz : z = 0 ∨ z = 1 := by omega
      refine ⟨_, _, _, rfl, rfl, eqlt_len, eqlt _ hz, ?_⟩
      refine ⟨_, rfl, (by show 2 ≤ sizeLine; decide), fun p hp => ?_⟩
      have sp := same_new (o := HO.tup [V.str (Str.ofString "box"), V.str (bxS i.toNat)]) hp
      have R5 := R4.keep sp
      refine ⟨_, rfl, r, 8, rfl, R5, by decide, by decide, fun j H6 j0 j1 R6 k6 => ?_⟩
      refine ⟨_, _, _, rfl, rfl, abc_len, box_cp' j0 (by omega), (by show 2 ≤ sizeLine; decide), fun q hq => ?_⟩
      have sq := same_new (o := HO.tup [V.str (Str.ofString "box"), V.str (bxS j.toNat)]) hq
      refine ⟨_, rfl, (by show 5 ≤ sizeLine; decide), fun u hu => ?_⟩
      have su := same_new (o := HO.tup [V.str (Str.ofString "unless"), V.str ⟨#[if z = 0 then 61 else 60]⟩, V.ref p, V.ref q, V.int ((a : Int) + (to : Int))]) hu
      have jb : j.toNat < 8 := by omega
      have hp6 := sq _ _ (k6.tups R5 _ _ (upd_same (H := H4) (a := p)))
      refine k _ (.unl (decide (z = 0)) (.one (.box i.toNat)) (.one (.box j.toNat)) (a + to)) _ (dat_unl ?_ (dbx (su _ _ hp6)) (dbx (su _ _ upd_same))) ⟨ib, jb, Nat.le_add_right _ _⟩ ⟨ib, jb⟩ ((R6.keep sq).keep su) ((((K3.trans k4).trans (KR.same R4 sp)).trans k6).trans (KR.same R6 (sq.trans su)))
      rw [upd_same]
      rcases hz with h | h
      · rw [h]; simp; rfl
      · rw [h]; simp; rfl
    refine ⟨_, rfl, (by show 2 ≤ sizeLine; decide), fun p hp => ?_⟩
    have sp := same_new (o := HO.tup [V.str (Str.ofString "go"), V.int ((a : Int) + (to : Int))]) hp
    refine k _ (.go (a + to)) _ (dat_go ?_) (Nat.le_add_right _ _) trivial (R3.keep sp) (K3.trans (KR.same R3 sp))
    rw [upd_same]; simp

/-- a list of numbers drawn -/
theorem RT.drawn {τ : Tg} {H : Hp} {r D : Addr} {n : Nat} {m : Int} {te : TE} {Q : VK} {rest : St} (T : RT τ H r) (hD : H D = none) (hn : n ≤ 10000)
    (hte : ∀ (v : Option V) (Hd : Hp) (F : VK), ReelP Hd r → (∀ (y : Int) (H' : Hp), 0 ≤ y → y < m → ReelP H' r → KR r Hd H' → F (.int y) H') → te (v :: rest) Hd F)
    (k : ∀ (xs : List Nat) (H' : Hp), xs.length = n → (∀ c ∈ xs, (c : Int) < m) → H' D = some (.lst (xs.map fun c : Nat => V.int c)) → RT (tgSet τ D [0]) H' r → (∀ x o, H x = some o → τ x ≠ [] → H' x = some o) → (∀ x xs, H x = some (.tup xs) → H' x = some (.tup xs)) → Kp r H H' → Q (.ref D) H') : CompW (Itr 0 n) (gName 0) tAll te Q D (none :: rest) H := by
  have sD := same_new (o := HO.lst []) hD
  have nDr : D ≠ r := T.R.ne hD
  have TD := T.claim (t := [0]) sD hD ⟨_, upd_same⟩
  have tD : tgSet τ D [0] D = [0] := tgSet_same
  have tg : ∀ x u, H x = some u → tgSet τ D [0] x = τ x := fun x u e => tgSet_ne (ne_of_none e hD)
  generalize tgSet τ D [0] = τd at TD tD tg k
  refine comp_range (lo := 0) (n := n) (fun i σ Hd => ∃ (v : Option V) (xs : List Nat), σ = v :: rest ∧ RT τd Hd r ∧ Hd D = some (.lst (xs.map fun c : Nat => V.int c)) ∧ xs.length = i ∧ (∀ c ∈ xs, (c : Int) < m) ∧ (∀ x o, H x = some o → τ x ≠ [] → Hd x = some o) ∧ (∀ x xs, H x = some (.tup xs) → Hd x = some (.tup xs)) ∧ Kp r H Hd) ?_ ?_ ?_
  · exact ⟨none, [], rfl, TD, upd_same, rfl, by simp, fun x o e _ => sD _ _ e, sD.tups, Kp.of_same sD⟩
  · rintro i σ Hd hi ⟨v, xs, rfl, Td, hDd, ld, od, kd, td, kpd⟩
    dsimp only [gName, tAll]
    rw [if_pos rfl]
    refine hte _ Hd _ Td.R (fun y H3 y0 y1 R3 k3 => ?_)
    have T3 := Td.draw k3 R3
    have hD3 := Td.keep k3 hDd (by rw [tD]; simp)
    obtain ⟨y, rfl⟩ := Int.eq_ofNat_of_zero_le y0
    refine ⟨_, hD3, (by rw [List.length_map, sizeLine_eq]; omega), _, xs ++ [y], rfl, T3.set hD3 (by rw [tD]; simp), by rw [upd_same, List.map_append]; rfl, by simp [ld], ?_, fun x o e t => ?_, fun x ys e => ?_, fun x o e n' => ?_⟩
    · intro c hc
      rcases List.mem_append.mp hc with hc | hc
      · exact od c hc
      · rw [List.mem_singleton.mp hc]; exact y1
    · rw [upd_ne (ne_of_none e hD)]
      exact Td.keep k3 (kd x o e t) (by rw [tg x o e]; exact t)
    · rw [upd_ne (ne_of_none e hD)]
      exact k3.tups Td.R _ _ (td x ys e)
    · rw [upd_ne (ne_of_none e hD)]
      exact k3.1 _ _ (kpd x o e n') n'
  · rintro σ Hd ⟨v, xs, rfl, Td, hDd, ld, od, kd, td, kpd⟩
    exact k xs Hd ld od hDd Td kd td kpd

/-- what stays when the reel is drawn from -/
structure Dr (τ : Tg) (r : Addr) (H H' : Hp) : Prop where
  k : ∀ x o, H x = some o → τ x ≠ [] → H' x = some o
  t : ∀ x xs, H x = some (.tup xs) → H' x = some (.tup xs)
  p : Kp r H H'
theorem Dr.of_same {τ : Tg} {r : Addr} {H H' : Hp} (s : Same H H') : Dr τ r H H' := ⟨fun x o e _ => s _ _ e, s.tups, Kp.of_same s⟩
theorem Dr.trans {τ : Tg} {r : Addr} {H H1 H2 : Hp} (a : Dr τ r H H1) (b : Dr τ r H1 H2) : Dr τ r H H2 := ⟨fun x o e n => b.k _ _ (a.k _ _ e n) n, fun x xs e => b.t _ _ (a.t _ _ e), a.p.trans b.p⟩
theorem Dr.draw {τ : Tg} {r : Addr} {H H' : Hp} (T : RT τ H r) (k : KR r H H') : Dr τ r H H' := ⟨fun x o e n => T.keep k e n, fun x xs e => k.tups T.R _ _ e, k.1⟩
def spHand85 (K : PySem.W.Frag) : Sp := fun vs H Q _ => ∃ (r : Addr) (τ : Tg) (m : Nat), vs = [.ref r, .int m] ∧ RT τ H r ∧ 0 < m ∧ m ≤ 20 ∧ ∀ (t l b : Addr) (rws : List Rw) (bx : List Int) (τ' : Tg) (H' : Hp), H' t = some (.tup [.ref l, .ref b]) → τ' l = [0] → τ' b = [0] → RowsH H' l m rws → H' b = some (.lst (bx.map V.int)) → Ok85 m rws bx → RT τ' H' r → (∀ x u, H x = some u → τ' x = τ x) → Dr τ r H H' → H l = none → H b = none → Q (.ref t) H'
theorem ok_hand85 {f : Addr} {fd : FuncData} (F : Fun K "_law_hand" "_law_hand" s_Lhand f fd) (F_Ldraw : FnAt P w K mg base 1 "_law_draw" ["reel", "many"] (spDrawP K)) (F_Lrow : FnAt P w K mg base 2 "_law_row" ["reel", "at", "size", "many"] (spRow85 K)) (Bt : Blt mg) : FnOk P w K mg base CX0 3 f fd ["reel", "many"] (spHand85 K) := by
  refine F.ok sc_Lhand (fun vs H Q E h => ?_) (fun cdv A outer s H vs Q E hr h => ?_)
  · obtain ⟨r, τ, m, rfl, _⟩ := h
    rfl
  · obtain ⟨r, τ, m, rfl, T, m0, m20, k⟩ := h
    refine ⟨_, (pss_cons (ps_set (i := 2) sc_Lhand.nd rfl (Or.inr rfl) (pe_lst pa_nil))
      (pss_cons (ps_set (i := 3) sc_Lhand.nd rfl (Or.inl rfl) (pe_op op_rep (pe_lst (pa_cons pe_int pa_nil)) pe_int))
      (pss_cons (ps_for PassesOwn.never rfl (pi_range1 (by rfl) Bt.b_range (pa_cons (pe_fn F_Ldraw (hr.mono (by decide)) (by rfl) (pa_cons (pv 0) (pa_cons pe_int pa_nil))) pa_nil)) (pg_name (i := 4) sc_Lhand.nd rfl (Or.inl rfl))
      (pss_cons (ps_set (i := 5) sc_Lhand.nd rfl (Or.inl rfl) (pe_fn F_Ldraw (hr.mono (by decide)) (by rfl) (pa_cons (pv 0) (pa_cons pe_int pa_nil))))
      (pss_cons (ps_asg (pe_fn F_Ldraw (hr.mono (by decide)) (by rfl) (pa_cons (pv 0) (pa_cons pe_int pa_nil))) (pg_sub (pv 3) (pv 5) set_list))
      (pss_one (ps_expr (pe_appendK (K := K) rfl (pv 2) (pa_cons (pe_tup (pa_cons pe_str (pa_cons (pe_ix ix_str pe_str (pv 5) (fun _ _ => rfl)) (pa_cons (pe_tup (pa_cons pe_str (pa_cons (pe_ix (ix_listK (K := K) rfl) (pv 3) (pv 5) (fun _ _ => rfl)) pa_nil))) pa_nil)))) pa_nil)))))))
      (pss_cons (ps_set (i := 6) sc_Lhand.nd rfl (Or.inr rfl) (pe_fn F_Ldraw (hr.mono (by decide)) (by rfl) (pa_cons (pv 0) (pa_cons pe_int pa_nil))))
      (pss_one (ps_ret (pe_tup (pa_cons (pe_op op_cat (pv 2) (pe_comp rfl (N := ["k", "reel", "size", "many", "rows"]) (own := ["k"]) (caps := [0, 6, 1, 2]) (CompScope.of (by kernel_rfl)) (pi_range1 (by rfl) Bt.b_range (pa_cons (pv 6) pa_nil)) (fun _ _ _ _ => (pg_name (i := 0) (show List.Nodup (["k", "reel", "size", "many", "rows"] : List Str) by decide +kernel) rfl (Or.inl rfl))) (fun _ _ _ _ => pts_nil) (fun _ _ _ _ => (pe_fn F_Lrow (hr.mono (by decide)) (by rfl) (pa_cons (pv 1) (pa_cons (pe_callB (call_len_seqK (K := K) rfl) (by rfl) Bt.b_len bt_len (pa_cons (pv 4) pa_nil)) (pa_cons (pv 2) (pa_cons (pv 3) pa_nil)))))))) (pa_cons (pv 3) pa_nil))))))))), ?_⟩
    refine ⟨(by show 0 ≤ sizeLine; decide), fun a ha => ?_⟩
    have sa := same_new (o := HO.lst []) ha
    refine ⟨(by show 1 ≤ sizeLine; decide), fun z1 hz1 => ?_⟩
    have sz1 := same_new (o := HO.lst [V.int 0]) hz1
    refine ⟨z1, _, _, rfl, rfl, upd_same, by decide, by decide, by rw [sizeLine_eq]; decide, fun b hb => ?_⟩
    have sb := same_new (o := HO.lst (List.replicate (Int.toNat 8) [V.int 0]).flatten) hb
    have eb : (upd (upd (upd H a (.lst [])) z1 (.lst [V.int 0])) b (.lst (List.replicate (Int.toNat 8) [V.int 0]).flatten)) b = some (.lst ((bx85 []).map V.int)) := by rw [upd_same]; rfl
    have ea := sb _ _ (sz1 _ _ (upd_same (H := H) (a := a) (o := HO.lst [])))
    have nba : b ≠ a := (ne_of_none (sz1 _ _ (upd_same (H := H) (a := a) (o := HO.lst []))) hb).symm
    have hb0 : H b = none := (sa.trans sz1).free hb
    have s0 := (sa.trans sz1).trans sb
    have T1 := (T.claim (t := [0]) (sa.trans sz1) ha ⟨_, sz1 _ _ upd_same⟩).claim (t := [0]) sb hb ⟨_, eb⟩
    have tb : tgSet (tgSet τ a [0]) b [0] b = [0] := tgSet_same
    have ta : tgSet (tgSet τ a [0]) b [0] a = [0] := by rw [tgSet_ne nba.symm]; exact tgSet_same
    have tg : ∀ x u, H x = some u → tgSet (tgSet τ a [0]) b [0] x = τ x := fun x u e => by rw [tgSet_ne (ne_of_none e hb0), tgSet_ne (ne_of_none e ha)]
    have dr : Dr τ r H _ := .of_same s0
    generalize (upd (upd (upd H a (.lst [])) z1 (.lst [V.int 0])) b (.lst (List.replicate (Int.toNat 8) [V.int 0]).flatten)) = H1 at ea eb T1 dr ⊢
    generalize tgSet (tgSet τ a [0]) b [0] = τ1 at T1 ta tb tg
    clear sa sz1 sb s0 hb hz1
    refine ⟨_, rfl, r, 9, rfl, T1.R, by decide, by decide, fun cnt H2 c0 c1 R2 k2 => ⟨_, rfl, by omega, by omega, ?_⟩⟩
    have T2 := T1.draw k2 R2
    have d2 : Dr τ1 r H1 H2 := .draw T1 k2
    have tgd : ∀ {Ha Hb : Hp}, Dr τ r H Ha → Dr τ1 r Ha Hb → Dr τ r H Hb := fun p q => ⟨fun x o e t => q.k _ _ (p.k x o e t) (by rw [tg x o e]; exact t), fun x xs e => q.t _ _ (p.t x xs e), p.p.trans q.p⟩
    refine for_range (lo := 0) (n := cnt.toNat) (fun j σ Hc => ∃ (v w' : Option V) (ls : List (Nat × Int)) (refs : List V), σ = [some (.ref r), some (.int m), some (.ref a), some (.ref b), v, w', none] ∧ RT τ1 Hc r ∧ Hc a = some (.lst refs) ∧ Dats Hc refs ((lets85 ls).map rwD) ∧ Hc b = some (.lst ((bx85 ls).map V.int)) ∧ ls.length = j ∧ (∀ p ∈ ls, ok85 p) ∧ Dr τ r H Hc)
      ⟨none, none, [], [], rfl, T2, d2.k _ _ ea (by rw [ta]; simp), by simp [lets85, Dats], d2.k _ _ eb (by rw [tb]; simp), rfl, by simp, tgd dr d2⟩ ?_ ?_
    · rintro j σ Hc hj ⟨v, w', ls, refs, rfl, Tc, eac, dc, ebc, lj, ol, drc⟩
      refine ⟨_, rfl, r, 8, rfl, Tc.R, by decide, by decide, fun bi H3 b0 b1 R3 k3 => ?_⟩
      have T3 := Tc.draw k3 R3
      obtain ⟨bi, rfl⟩ := Int.eq_ofNat_of_zero_le b0
      refine ⟨_, rfl, r, 1000, rfl, R3, by decide, by decide, fun nn H4 n0 n1 R4 k4 => ?_⟩
      have T4 := T3.draw k4 R4
      have d4 : Dr τ1 r Hc H4 := (Dr.draw Tc k3).trans (.draw T3 k4)
      have ea4 := d4.k _ _ eac (by rw [ta]; simp)
      have eb4 := d4.k _ _ ebc (by rw [tb]; simp)
      have bl : bi < (bx85 ls).length := by rw [bx85_len]; omega
      refine ⟨_, rfl, _, rfl, b, _, _, bi, rfl, rfl, eb4, (by rw [List.length_map]; exact ix_in bl), ?_⟩
      have T5 := T4.set (u := .lst (((bx85 ls).map V.int).set bi (.int nn))) eb4 (by rw [tb]; simp)
      have eb5 : (upd H4 b (.lst (((bx85 ls).map V.int).set bi (.int nn)))) b = some (.lst ((bx85 (ls ++ [(bi, nn)])).map V.int)) := by rw [upd_same, bx85_snoc, List.map_set]
      have ea5 : (upd H4 b (.lst (((bx85 ls).map V.int).set bi (.int nn)))) a = _ := (upd_ne nba.symm).trans ea4
      have t5 : ∀ x xs, Hc x = some (.tup xs) → (upd H4 b (.lst (((bx85 ls).map V.int).set bi (.int nn)))) x = some (.tup xs) := fun x xs e => by
        have := d4.t x xs e
        rw [upd_ne (ne_of this eb4 (by intro z; cases z))]; exact this
      have dr5 : Dr τ r H (upd H4 b (.lst (((bx85 ls).map V.int).set bi (.int nn)))) := by
        have := tgd drc d4
        exact ⟨fun x o e t => by rw [upd_ne (ne_of_none e hb0)]; exact this.k x o e t, fun x xs e => by rw [upd_ne (ne_of_none e hb0)]; exact this.t x xs e, fun x o e n => by rw [upd_ne (ne_of_none e hb0)]; exact this.p x o e n⟩
      generalize (upd H4 b (.lst (((bx85 ls).map V.int).set bi (.int nn)))) = H5 at T5 eb5 ea5 t5 dr5 ⊢
      have gb : atI ((bx85 (ls ++ [(bi, nn)])).map V.int) (bi : Int) = some (.int nn) := atI_nat (by rw [List.getElem?_map, bx85_snoc]; simp [bl])
      refine ⟨_, rfl, .inl ⟨rfl, _, SqL.of ea5⟩, _, rfl, _, _, _, rfl, rfl, abc_len, box_cp' (by omega) (by omega), _, rfl, _, rfl, _, _, _, _, rfl, rfl, SqL.of eb5, gb, (by show 2 ≤ sizeLine; decide), fun p hp => ⟨(by show 3 ≤ sizeLine; decide), fun q hq => ?_⟩⟩
      have sp := same_new (o := HO.tup [V.str (Str.ofString "number"), V.int nn]) hp
      have sq := same_new (o := HO.tup [V.str (Str.ofString "let"), V.str ⟨#[97 + (bi : Int).toNat]⟩, V.ref p]) hq
      have dq : Dat (upd (upd H5 p (.tup [V.str (Str.ofString "number"), V.int nn])) q (.tup [V.str (Str.ofString "let"), V.str ⟨#[97 + (bi : Int).toNat]⟩, V.ref p])) (.ref q) (rwD (.lett bi (.one (.num nn)))) := dat_let (b := bi) (x := .ref p) upd_same (dat_x1 (x := .num nn) (sq _ _ upd_same))
      have s6 := sp.trans sq
      generalize (upd (upd H5 p (.tup [V.str (Str.ofString "number"), V.int nn])) q (.tup [V.str (Str.ofString "let"), V.str ⟨#[97 + (bi : Int).toNat]⟩, V.ref p])) = H6 at dq s6 ⊢
      have ea6 := s6 _ _ ea5
      have rl : refs.length = ls.length := by rw [dc.length, List.length_map]; unfold lets85; rw [List.length_map]
      have tu : ∀ x ys, H6 x = some (.tup ys) → (upd H6 a (.lst (refs ++ [V.ref q]))) x = some (.tup ys) := fun x ys e => by rw [upd_ne (ne_of e ea6 (by intro z; cases z))]; exact e
      refine ⟨a, refs, _, rfl, rfl, ea6, (by rw [rl, lj, sizeLine_eq]; omega), ?_⟩
      refine ⟨_, _, ls ++ [(bi, nn)], refs ++ [V.ref q], rfl, (T5.same s6).set ea6 (by rw [ta]; simp), upd_same, ?_, by rw [upd_ne nba]; exact s6 _ _ eb5, by simp [lj], ?_, ?_⟩
      · rw [show lets85 (ls ++ [(bi, nn)]) = lets85 ls ++ [.lett bi (.one (.num nn))] by simp [lets85], List.map_append]
        exact dats_snoc (((dc.kp t5).kp fun x xs e => s6 _ _ e).kp tu) (dq.keep tu _ (imm_rw _))
      · intro p hp
        rcases List.mem_append.mp hp with hp | hp
        · exact ol p hp
        · rw [List.mem_singleton.mp hp]; exact ⟨by show bi < 8; omega, n0, n1⟩
      · exact ⟨fun x o e t => by rw [upd_ne (ne_of_none e ha)]; exact s6 _ _ (dr5.k x o e t), fun x xs e => by rw [upd_ne (ne_of_none e ha)]; exact s6 _ _ (dr5.t x xs e), fun x o e n => by rw [upd_ne (ne_of_none e ha)]; exact s6 _ _ (dr5.p x o e n)⟩
    · rintro σ Hc ⟨v, w', ls, refs, rfl, Tc, eac, dc, ebc, lj, ol, drc⟩
      have rl : refs.length = ls.length := by rw [dc.length, List.length_map]; unfold lets85; rw [List.length_map]
      refine ⟨_, rfl, r, 9, rfl, Tc.R, by decide, by decide, fun sz H3 s0 s1 R3 k3 => ?_⟩
      have T3 := Tc.draw k3 R3
      have d3 : Dr τ1 r Hc H3 := .draw Tc k3
      obtain ⟨sz, rfl⟩ := Int.eq_ofNat_of_zero_le s0
      refine ⟨_, rfl, _, rfl, _, rfl, by omega, by omega, fun D hD => ?_⟩
      rw [Int.toNat_natCast]
      have sD := same_new (o := HO.lst []) hD
      have nDr : D ≠ r := R3.ne hD
      have TD := T3.claim (t := [0]) sD hD ⟨_, upd_same⟩
      have ea3 := d3.k _ _ eac (by rw [ta]; simp)
      have eb3 := d3.k _ _ ebc (by rw [tb]; simp)
      have dr3 := tgd drc d3
      have hD0 : H D = none := kp_none dr3.p nDr hD
      have nDa : D ≠ a := (ne_of_none ea3 hD).symm
      have nDb : D ≠ b := (ne_of_none eb3 hD).symm
      have tD : tgSet τ1 D [0] D = [0] := tgSet_same
      have tDa : tgSet τ1 D [0] a = [0] := by rw [tgSet_ne nDa.symm]; exact ta
      have tDb : tgSet τ1 D [0] b = [0] := by rw [tgSet_ne nDb.symm]; exact tb
      have tgD : ∀ x u, H x = some u → tgSet τ1 D [0] x = τ x := fun x u e => by rw [tgSet_ne (ne_of_none e hD0)]; exact tg x u e
      generalize tgSet τ1 D [0] = τd at TD tD tDa tDb tgD
      refine comp_range (lo := 0) (n := sz) (fun i σ Hd => ∃ (v : Option V) (rf : List V) (bd : List Rw), σ = [v, some (.ref r), some (.int sz), some (.int m), some (.ref a)] ∧ RT τd Hd r ∧ Hd D = some (.lst rf) ∧ Dats Hd rf (bd.map rwD) ∧ (∀ x ∈ bd, body85 ls.length m x ∧ rwOk m x) ∧ bd.length = i ∧ Hd a = some (.lst refs) ∧ Dats Hd refs ((lets85 ls).map rwD) ∧ Hd b = some (.lst ((bx85 ls).map V.int)) ∧ Dr τ r H Hd) ?_ ?_ ?_
      · exact ⟨none, [], [], rfl, TD, upd_same, by simp [Dats], by simp, rfl, sD _ _ ea3, (dc.kp d3.t).kp fun x xs e => sD _ _ e, sD _ _ eb3, dr3.trans (.of_same sD)⟩
      · rintro i σ Hd hi ⟨v, rf, bd, rfl, Td, hDd, dd, od, ld, ead, drf, ebd, drd⟩
        dsimp only [gName, tAll]
        rw [if_pos rfl]
        refine ⟨_, rfl, _, rfl, a, _, rfl, .inl (SqL.of ead), _, rfl, _, rfl, r, ls.length, sz, m, by rw [rl]; rfl, Td.R, by omega, m0, m20, fun y x H9 dy xb xo R9 k9 => ?_⟩
        have T9 := Td.draw k9 R9
        have d9 : Dr τd r Hd H9 := .draw Td k9
        have hD9 := d9.k _ _ hDd (by rw [tD]; simp)
        have tu : ∀ a ys, H9 a = some (.tup ys) → (upd H9 D (.lst (rf ++ [y]))) a = some (.tup ys) := fun a ys e => by rw [upd_ne (ne_of e hD9 (by intro z; cases z))]; exact e
        have ll : rf.length = bd.length := by rw [dd.length, List.length_map]
        refine ⟨rf, hD9, (by rw [ll, sizeLine_eq]; omega), _, rf ++ [y], bd ++ [x], rfl, T9.set hD9 (by rw [tD]; simp), upd_same, ?_, ?_, by simp [ld], by rw [upd_ne nDa.symm]; exact d9.k _ _ ead (by rw [tDa]; simp), (drf.kp d9.t).kp tu, by rw [upd_ne nDb.symm]; exact d9.k _ _ ebd (by rw [tDb]; simp), ?_⟩
        · rw [List.map_append]
          exact dats_snoc ((dd.kp d9.t).kp tu) (dy.keep tu _ (imm_rw x))
        · intro q hq
          rcases List.mem_append.mp hq with hq | hq
          · exact od q hq
          · rw [List.mem_singleton.mp hq]; exact ⟨xb, xo⟩
        · exact ⟨fun x o e t => by rw [upd_ne (ne_of_none e hD0)]; exact d9.k _ _ (drd.k x o e t) (by rw [tgD x o e]; exact t), fun x xs e => by rw [upd_ne (ne_of_none e hD0)]; exact d9.t _ _ (drd.t x xs e), fun x o e n => by rw [upd_ne (ne_of_none e hD0)]; exact d9.p _ _ (drd.p x o e n) n⟩
      · rintro σ Hd ⟨v, rf, bd, rfl, Td, hDd, dd, od, ld, ead, drf, ebd, drd⟩
        have ll : rf.length = bd.length := by rw [dd.length, List.length_map]
        refine ⟨a, D, _, _, rfl, rfl, ead, hDd, (by rw [rl, ll, sizeLine_eq]; omega), fun l hl => ?_⟩
        have sl := same_new (o := HO.lst (refs ++ rf)) hl
        refine ⟨_, rfl, (by show 2 ≤ sizeLine; decide), fun t ht => ?_⟩
        have st := same_new (o := HO.tup [V.ref l, V.ref b]) ht
        have s2 := sl.trans st
        have hl0 : H l = none := kp_none drd.p (Td.R.ne hl) hl
        have el := st _ _ (upd_same (H := Hd) (a := l) (o := HO.lst (refs ++ rf)))
        have nlb : b ≠ l := ne_of_none ebd hl
        refine k t l b (lets85 ls ++ bd) (bx85 ls) (tgSet τd l [0]) _ upd_same tgSet_same (by rw [tgSet_ne nlb]; exact tDb) ⟨refs ++ rf, el, ?_, ?_, ?_⟩ (s2 _ _ ebd) ⟨ls, bd, rfl, rfl, by omega, ol, fun x hx => (od x hx).1⟩ (Td.claim s2 hl ⟨_, el⟩) (fun x u e => by rw [tgSet_ne (ne_of_none e hl0)]; exact tgD x u e) (drd.trans (.of_same s2)) hl0 hb0
        · rw [List.map_append]
          exact ((drf.kp fun x xs e => s2 _ _ e).append (dd.kp fun x xs e => s2 _ _ e))
        · intro x hx
          rcases List.mem_append.mp hx with hx | hx
          · obtain ⟨p, hp, rfl⟩ := List.mem_map.mp hx
            obtain ⟨p1, p2, p3⟩ := ol p hp
            exact ⟨p1, p2, p3⟩
          · exact (od x hx).2
        · simp [lets85]; omega

/-! ### lists of lists of numbers -/
def LLI (H : Hp) (l : Addr) (bss : List (List Int)) : Prop := ∃ as : List Addr, H l = some (.lst (as.map V.ref)) ∧ as.length = bss.length ∧ ∀ (i : Nat) (a : Addr) (bs : List Int), as[i]? = some a → bss[i]? = some bs → H a = some (.lst (bs.map V.int))
theorem at_ints {H : Hp} {v : V} {bs : List Int} (h : Dat H v (intsD bs)) : ∃ a, v = .ref a ∧ H a = some (.lst (bs.map V.int)) := by
  simp only [intsD, Dat] at h
  obtain ⟨a, vs, rfl, e, d⟩ := h
  refine ⟨a, rfl, ?_⟩
  rw [e]
  congr 2
  clear e
  induction bs generalizing vs with
  | nil => cases vs with
    | nil => rfl
    | cons v vs => simp [Dats] at d
  | cons x bs ih => cases vs with
    | nil => simp [Dats] at d
    | cons v vs =>
      simp only [List.map_cons, Dats, Dat] at d
      obtain ⟨rfl, d⟩ := d
      rw [List.map_cons, ih vs d]
theorem dats_lli {H : Hp} : ∀ {bss : List (List Int)} {vs : List V}, Dats H vs (bss.map intsD) → ∃ as : List Addr, vs = as.map V.ref ∧ as.length = bss.length ∧ ∀ (i : Nat) (a : Addr) (bs : List Int), as[i]? = some a → bss[i]? = some bs → H a = some (.lst (bs.map V.int))
  | [], vs, d => by
    cases vs with
    | nil => exact ⟨[], rfl, rfl, fun i a bs e => by simp at e⟩
    | cons v vs => simp [Dats] at d
  | b :: bss, vs, d => by
    cases vs with
    | nil => simp [Dats] at d
    | cons v vs =>
      simp only [List.map_cons, Dats] at d
      obtain ⟨d1, d2⟩ := d
      obtain ⟨a, rfl, ha⟩ := at_ints d1
      obtain ⟨as, rfl, l, h⟩ := dats_lli d2
      refine ⟨a :: as, rfl, by simp [l], fun i a' bs e1 e2 => ?_⟩
      cases i with
      | zero => simp at e1 e2; subst e1 e2; exact ha
      | succ i => simp at e1 e2; exact h i a' bs e1 e2
theorem dat_lli {H : Hp} {l : Addr} {bss : List (List Int)} (h : Dat H (.ref l) (.list (bss.map intsD))) : LLI H l bss := by
  simp only [Dat] at h
  obtain ⟨a, vs, e0, e, d⟩ := h
  cases e0
  obtain ⟨as, rfl, l', h'⟩ := dats_lli d
  exact ⟨as, e, l', h'⟩
theorem lli_dats {H : Hp} : ∀ {bss : List (List Int)} {as : List Addr}, as.length = bss.length → (∀ (i : Nat) (a : Addr) (bs : List Int), as[i]? = some a → bss[i]? = some bs → H a = some (.lst (bs.map V.int))) → Dats H (as.map V.ref) (bss.map intsD)
  | [], as, l, _ => by
    cases as with
    | nil => simp [Dats]
    | cons a as => simp at l
  | b :: bss, as, l, h => by
    cases as with
    | nil => simp at l
    | cons a as =>
      simp only [List.map_cons, Dats]
      exact ⟨dat_ints (h 0 a b rfl rfl), lli_dats (by simpa using l) fun i a' bs e1 e2 => h (i + 1) a' bs (by simpa using e1) (by simpa using e2)⟩
theorem lli_dat {H : Hp} {l : Addr} {bss : List (List Int)} (h : LLI H l bss) : Dat H (.ref l) (.list (bss.map intsD)) := by
  obtain ⟨as, e, l', h'⟩ := h
  exact dat_list e (lli_dats l' h')
theorem LLI.same {H H' : Hp} {l : Addr} {bss : List (List Int)} (h : LLI H l bss) (k : Same H H') : LLI H' l bss := by
  obtain ⟨as, e, l', h'⟩ := h
  exact ⟨as, k _ _ e, l', fun i a bs e1 e2 => k _ _ (h' i a bs e1 e2)⟩
theorem sh_lists (bss : List (List Int)) : SeqAt.shaped (.list (bss.map intsD)) = true := by
  have e1 : PyData.canLay0 (.list (bss.map intsD)) = true := canAll_map intsD bss fun s _ => (can_ints s).1
  have e2 := depthAll_map intsD 1 bss fun s _ => (can_ints s).2
  unfold SeqAt.shaped
  rw [e1, decide_eq_true (show PyData.depth (.list (bss.map intsD)) ≤ 64 by show PyData.depthAll (bss.map intsD) + 1 ≤ 64; omega)]; rfl
theorem sh_ints' (l : List Int) : SeqAt.shaped (intsD l) = true := by
  unfold SeqAt.shaped
  rw [(can_ints l).1, decide_eq_true (show (intsD l).depth ≤ 64 by have := (can_ints l).2; omega)]; rfl

def spBoxes85 (CW CH : Addr) (K : PySem.W.Frag) : Sp := fun vs H Q _ => ∃ (i : Nat) (τ : Tg) (W : WAd) (S : WkS), vs = [.ref W.o, .int S.hs.length] ∧ WAt CW CH i τ H W S ∧ ∀ (l : Addr) (H' : Hp), H l = none → LLI (nw H H') l (bss85 S) → Same H H' → Q (.ref l) H'
theorem ok_boxes85 {C_Works C_Hand C_NoHand : Addr} {f : Addr} {fd : FuncData} (F : Fun K "_law_boxes" "_law_boxes" s_Lboxes f fd) (M_Works_boxes : MethAt P w K mg base 4 C_Works "boxes" ["self", "hand"] (fun vs H Q _ => spTold HandS.bs C_Works C_Hand C_NoHand K vs H Q fun _ _ _ => False)) (Z_Works : Cl_Works K C_Works) (Bt : Blt mg) : FnOk P w K mg base CX0 5 f fd ["one", "many"] (spBoxes85 C_Works C_Hand K) := by
  refine F.ok sc_Lboxes (fun vs H Q E h => ?_) (fun cdv A outer s H vs Q E hr h => ?_)
  · obtain ⟨i, τ, W, S, rfl, _⟩ := h
    rfl
  · obtain ⟨i, τ, W, S, rfl, w, k⟩ := h
    refine ⟨_, (pss_one (ps_ret (pe_comp rfl (N := ["k", "one"]) (own := ["k"]) (caps := [0]) (CompScope.of (by kernel_rfl)) (pi_range1 (by rfl) Bt.b_range (pa_cons (pv 1) pa_nil)) (fun _ _ _ _ => (pg_name (i := 0) (show List.Nodup (["k", "one"] : List Str) by decide +kernel) rfl (Or.inl rfl))) (fun _ _ _ _ => pts_nil) (fun _ _ _ _ => (pe_methA M_Works_boxes Z_Works.cls (hr.mono (by decide)) (pv 1) (pa_cons (pv 0) pa_nil)))))), ?_⟩
    refine ⟨_, rfl, _, rfl, by have := w.hn; omega, by have := w.hn; omega, fun D hD => ?_⟩
    rw [Int.toNat_natCast]
    refine comp_newR (fun j => intsD (((bss85 S)[j]?).getD [])) hD (by have := w.hn; omega) (fun j H1 F hj s1 kF => ?_) (fun H1 s1 d1 => ?_)
    · have es : S.hs[j]? = some S.hs[j] := by simp [hj]
      have w1 := w.same s1
      refine ⟨_, rfl, W.o, W.dx, _, rfl, w1.o, rfl, _, rfl, i, τ, W, S, _, rfl, w1, fun k1 t1 l1 H2 e1 e1' f1 h1 s2 => ?_, fun z => absurd (show inP ((0 : Int) + j) S.hs.length from ⟨by omega, by omega⟩) z⟩
      have : k1 = j := by omega
      subst this
      rw [es] at e1'
      cases e1'
      refine kF _ _ s2 ?_
      have : ((bss85 S)[k1]?).getD [] = S.hs[k1].bs := by unfold bss85; rw [List.getElem?_map, es]; rfl
      rw [this]
      exact dat_ints (nw_at f1 h1)
    · refine k D H1 hD (dat_lli ?_) s1
      have eh : ((List.range S.hs.length).map fun j => intsD (((bss85 S)[j]?).getD [])) = (bss85 S).map intsD := by
        unfold bss85
        refine List.ext_getElem? fun n => ?_
        by_cases hn : n < S.hs.length
        · simp [hn]
        · simp [hn]
      rw [← eh]
      exact d1
theorem flat_int (bss : List (List Int)) : (bss.map fun b => b.map V.int).flatten = bss.flatten.map V.int := by
  induction bss with
  | nil => rfl
  | cons b bss ih => rw [List.map_cons, List.flatten_cons, ih, List.flatten_cons, List.map_append]
def spSorted85 (K : PySem.W.Frag) : Sp := fun vs H Q _ => ∃ (a l : Addr) (ns : List Int) (bss : List (List Int)), vs = [.ref a, .ref l] ∧ H a = some (.lst (ns.map V.int)) ∧ LLI H l bss ∧ 0 < bss.length ∧ bss.length ≤ 100 ∧ ns.length + bss.flatten.length ≤ 1000 ∧ ∀ (q : Addr) (ms : List Int) (H' : Hp), H q = none → H' q = some (.lst (ms.map V.int)) → ms.Perm (ns ++ bss.flatten) → ms.Pairwise (fun x y => x ≤ y) → Same H H' → Q (.ref q) H'
theorem ok_sorted85 {f : Addr} {fd : FuncData} (F : Fun K "_law_sorted" "_law_sorted" s_Lsorted f fd) (Bt : Blt mg) : FnOk P w K mg base CX0 1 f fd ["numbers", "boxes"] (spSorted85 K) := by
  refine F.ok sc_Lsorted (fun vs H Q E h => ?_) (fun cdv A outer s H vs Q E hr h => ?_)
  · obtain ⟨a, l, ns, bss, rfl, _⟩ := h
    rfl
  · obtain ⟨a, l, ns, bss, rfl, ha, hl, l0, l1, sz, k⟩ := h
    refine ⟨_, (pss_one (ps_ret (pe_callB (call_sortIK (K := K) rfl) (by rfl) Bt.b_sorted bt_sorted (pa_cons (pe_op op_cat (pv 0) (pe_sumL (K := K) rfl rfl (by rfl) Bt.b_sum bt_sum (pa_cons (pe_comp rfl (N := ["row"]) (own := ["row"]) (caps := []) (CompScope.of (by kernel_rfl)) (pi_listK (K := K) rfl (pv 1)) (fun _ _ _ _ => (pg_name (i := 0) (show List.Nodup (["row"] : List Str) by decide +kernel) rfl (Or.inl rfl))) (fun _ _ _ _ => pts_nil) (fun _ _ _ _ => (pe_callTy (call_list_ofK (K := K) rfl) (by rfl) Bt.b_list bt_list (pa_cons (pv 0) pa_nil)))) pa_nil) (pe_lst pa_nil))) pa_nil)))), ?_⟩
    obtain ⟨as, el, la, has⟩ := id hl
    refine ⟨_, rfl, _, rfl, l, rfl, ⟨_, SqL.of el⟩, fun D hD => ?_⟩
    refine comp_newL (K := K) (fun j => intsD ((bss[j]?).getD [])) hD (SqL.of el) (by rw [List.length_map]; omega) (fun j x H1 F hj s1 kF => ?_) (fun H1 s1 d1 => ?_)
    · rw [List.getElem?_map] at hj
      obtain ⟨b, eb, rfl⟩ : ∃ b, as[j]? = some b ∧ x = .ref b := by
        cases e : as[j]? with
        | none => rw [e] at hj; cases hj
        | some b => rw [e] at hj; exact ⟨b, rfl, (Option.some.inj hj).symm⟩
      have jl : j < bss.length := by rw [← la]; exact (List.getElem?_eq_some_iff.mp eb).1
      have hb := s1 _ _ (has j b bss[j] eb (by simp [jl]))
      refine ⟨_, rfl, b, _, rfl, .inl (SqL.of hb), fun p hp => ?_⟩
      refine kF _ _ (same_new hp) ?_
      rw [show (bss[j]?).getD [] = bss[j] by simp [jl]]
      exact dat_ints (nw_at hp upd_same)
    · have eh : ((List.range (as.map V.ref).length).map fun j => intsD ((bss[j]?).getD [])) = bss.map intsD := by
        rw [List.length_map, la]
        refine List.ext_getElem? fun n => ?_
        by_cases hn : n < bss.length
        · simp [hn]
        · simp [hn]
      rw [eh] at d1
      obtain ⟨cs, ec, lc, hcs⟩ := (dat_lli d1).same (nw_same _ _)
      refine ⟨(by show 0 ≤ sizeLine; decide), fun d hd => ?_⟩
      have sd := same_new (o := HO.lst []) hd
      have fl : (bss.map fun b => b.map V.int).flatten.length = bss.flatten.length := by rw [flat_int, List.length_map]
      refine ⟨D, d, cs, bss.map fun b => b.map V.int, rfl, rfl, SqL.of (sd _ _ ec), upd_same, by omega, by rw [List.length_map]; exact lc, fun i c xs e1 e2 => ?_, by rw [fl, sizeLine_eq]; omega, fun T hT => ?_⟩
      · rw [List.getElem?_map] at e2
        cases e : bss[i]? with
        | none => rw [e] at e2; cases e2
        | some b => rw [e] at e2; cases e2; exact sd _ _ (hcs i c b e1 e)
      have sT := same_new (o := HO.lst (bss.map fun b => b.map V.int).flatten) hT
      have s13 := (s1.trans sd).trans sT
      refine ⟨a, T, _, _, rfl, rfl, s13 _ _ ha, upd_same, by rw [fl, List.length_map, sizeLine_eq]; omega, fun p hp => ?_⟩
      have sp := same_new (o := HO.lst (ns.map V.int ++ (bss.map fun b => b.map V.int).flatten)) hp
      refine ⟨p, ns ++ bss.flatten, rfl, SqL.of (by rw [upd_same, flat_int, List.map_append]), fun q ms hq pm pw => ?_⟩
      exact k q ms _ ((s13.trans sp).free hq) upd_same pm pw ((s13.trans sp).trans (same_new hq))

/-! which wait -/
def waitB (hs : List HandS) (k : Nat) : Bool := match hs[k]? with
  | some s => decide (s.st = "waits")
  | none => false
def waitL (hs : List HandS) : List Nat := (List.range hs.length).filter (waitB hs)
theorem fm_fil {α : Type} (p : Nat → Bool) (f : Nat → α) (n : Nat) : (List.range n).filterMap (fun i => if p i then some (f i) else none) = ((List.range n).filter p).map f := by
  induction n with
  | zero => rfl
  | succ n ih =>
    rw [fm_succ, ih, List.range_succ, List.filter_append, List.map_append]
    congr 1
    cases h : p n <;> simp [h]
theorem waitL_get {hs : List HandS} {z k : Nat} (h : (waitL hs)[z]? = some k) : ∃ s, hs[k]? = some s ∧ s.st = "waits" := by
  have m := List.mem_of_getElem? h
  have := (List.mem_filter.mp m).2
  unfold waitB at this
  cases e : hs[k]? with
  | none => rw [e] at this; cases this
  | some s => rw [e] at this; exact ⟨s, rfl, of_decide_eq_true this⟩

theorem inV_ints (h : Int) : ∀ l : List Int, inV (.int h) (l.map V.int) = l.contains h
  | [] => rfl
  | x :: l => by
    have ih := inV_ints h l
    unfold inV at ih ⊢
    rw [List.map_cons, List.any_cons, ih, List.contains_cons]
    congr 1
    show (x == h) = (h == x)
    rw [Bool.eq_iff_iff]
    simp only [beq_iff_eq]
    exact ⟨fun z => z.symm, fun z => z.symm⟩
theorem flat_ints (l : List Int) : (l.map V.int).all flatV = true := by
  induction l with
  | nil => rfl
  | cons x l ih => rw [List.map_cons, List.all_cons, ih]; rfl

structure Bef85 (H : Hp) (B c l : Addr) (ns : List Int) (bss : List (List Int)) : Prop where
  b : H B = some (.tup [.ref c, .ref l])
  c : H c = some (.lst (ns.map V.int))
  l : LLI H l bss
theorem Bef85.same {H H' : Hp} {B c l : Addr} {ns : List Int} {bss : List (List Int)} (h : Bef85 H B c l ns bss) (k : Same H H') : Bef85 H' B c l ns bss := ⟨k _ _ h.b, k _ _ h.c, h.l.same k⟩
theorem fil_one {l : List Int} {b : Nat} {x y : Int} (lb : l[b]? = some y) (hl : l.length = 8) : (List.range 8).filterMap (fun i : Nat => if decide (gI l i ≠ gI (l.set b x) i) then some (V.int (i : Int)) else none) = if x = y then [] else [V.int (b : Nat)] := by
  obtain ⟨h, rfl⟩ := List.getElem?_eq_some_iff.mp lb
  rw [fm_fil (fun i : Nat => decide (gI l i ≠ gI (l.set b x) i)) (fun k : Nat => V.int k) 8]
  have key : ∀ i : Nat, i < 8 → (gI l i ≠ gI (l.set b x) i ↔ i = b ∧ x ≠ l[b]) := fun i hi => by
    unfold gI
    have e1 : ((i : Int)).toNat = i := by omega
    rw [e1]
    by_cases z : i = b
    · subst z
      simp [h]
      exact ⟨fun q r => q r.symm, fun q r => q r.symm⟩
    · have : (l.set b x)[i]? = l[i]? := List.getElem?_set_ne (Ne.symm z)
      rw [this]
      simp [z]
  by_cases e : x = l[b]
  · rw [if_pos e, List.filter_eq_nil_iff.mpr]
    · rfl
    · intro i hi q
      exact ((key i (List.mem_range.mp hi)).mp (of_decide_eq_true q)).2 e
  · rw [if_neg e]
    have b8 : b < 8 := by omega
    have : (List.range 8).filter (fun i : Nat => decide (gI l i ≠ gI (l.set b x) i)) = [b] := by
      have e2 : (List.range 8).filter (fun i : Nat => decide (gI l i ≠ gI (l.set b x) i)) = (List.range 8).filter (fun i => decide (i = b)) := List.filter_congr fun i hi => by
        rw [Bool.eq_iff_iff, decide_eq_true_iff, decide_eq_true_iff, key i (List.mem_range.mp hi)]
        exact ⟨fun z => z.1, fun z => ⟨z, e⟩⟩
      rw [e2]
      have : ∀ b : Fin 8, (List.range 8).filter (fun i => decide (i = b.val)) = [b.val] := by decide
      exact this ⟨b, b8⟩
    rw [this]; rfl
def spRight85 (K : PySem.W.Frag) : Sp := fun vs H Q _ => ∃ (tt B cb lb A ca la : Addr) (ns : List Int) (bss : List (List Int)) (k b c : Nat) (x y : Int) (z : List Int), vs = [.ref tt, .ref B, .ref A, .int k] ∧ H tt = some (.tup [.str "swap", .int c, .int x, .int y]) ∧ Bef85 H B cb lb ns bss ∧ Bef85 H A ca la (ns.set c y) (bss.set k (z.set b x)) ∧ ns[c]? = some x ∧ bss[k]? = some z ∧ z[b]? = some y ∧ z.length = 8 ∧ bss.length ≤ 1000 ∧ ∀ H', Same H H' → Q (.bl true) H'
theorem ok_right85 {f : Addr} {fd : FuncData} (F : Fun K "_law_right" "_law_right" s_Lright f fd) (Bt : Blt mg) : FnOk P w K mg base CX0 1 f fd ["told", "before", "after", "k"] (spRight85 K) := by
  refine F.ok sc_Lright (fun vs H Q E h => ?_) (fun cdv A outer s H vs Q E hr h => ?_)
  · obtain ⟨tt, B, cb, lb, A, ca, la, ns, bss, k, b, c, x, y, z, rfl, _⟩ := h
    rfl
  · obtain ⟨tt, B, cb, lb, A, ca, la, ns, bss, k, b, c, x, y, z, rfl, ht, hB, hA, ec, ek, eb, z8, bl, q⟩ := h
    have hu64 := hr.units
    refine ⟨_, (pss_cons (ps_asg (pv 0) (pg_tupK (K := K) (n := 4) rfl rfl (pgs_cons (pg_name (i := 4) sc_Lright.nd rfl (Or.inl rfl)) (pgs_cons (pg_name (i := 5) sc_Lright.nd rfl (Or.inl rfl)) (pgs_cons (pg_name (i := 6) sc_Lright.nd rfl (Or.inl rfl)) (pgs_cons (pg_name (i := 7) sc_Lright.nd rfl (Or.inl rfl)) pgs_nil))))))
      (pss_cons (ps_set (i := 8) sc_Lright.nd rfl (Or.inl rfl) (pe_callTy (call_list_ofK (K := K) rfl) (by rfl) Bt.b_list bt_list (pa_cons (pe_ix (ix_tupK (K := K) rfl) (pv 1) pe_int (fun _ _ => rfl)) pa_nil)))
      (pss_cons (ps_if (PW.pt (pw_or (pt_cmpR op_ne (pv 4) pe_str (nomark _)) (pw_or (pt_not (pt_chain op_le op_lt pe_int (pv 5) (pe_callB (call_len_seqK (K := K) rfl) (by rfl) Bt.b_len bt_len (pa_cons (pv 8) pa_nil)))) (pw_or1 (pt_cmpR op_ne (pe_ix (ix_listK (K := K) rfl) (pv 8) (pv 5) (fun _ _ => rfl)) (pv 6) (nomark _)))))) (pss_one (ps_ret pe_bl)) pss_nil)
      (pss_cons (ps_asg (pv 7) (pg_sub (pv 8) (pv 5) set_list))
      (pss_cons (ps_if (PW.pt (pw_or (pt_cmpR (op_neDK (K := K) rfl hu64) (pe_ix (ix_tupK (K := K) rfl) (pv 2) pe_int (fun _ _ => rfl)) (pv 8) (nomark _)) (pw_or (pt_cmpR (op_neDK (K := K) rfl hu64) (pe_slice (sl_listK (K := K) rfl) (pe_ix (ix_tupK (K := K) rfl) (pv 2) pe_int (fun _ _ => rfl)) po_none (po_some (pv 3))) (pe_slice (sl_listK (K := K) rfl) (pe_ix (ix_tupK (K := K) rfl) (pv 1) pe_int (fun _ _ => rfl)) po_none (po_some (pv 3))) (nomark _)) (pw_or1 (pt_cmpR (op_neDK (K := K) rfl hu64) (pe_slice (sl_listK (K := K) rfl) (pe_ix (ix_tupK (K := K) rfl) (pv 2) pe_int (fun _ _ => rfl)) (po_some (pe_op op_add (pv 3) pe_int)) po_none) (pe_slice (sl_listK (K := K) rfl) (pe_ix (ix_tupK (K := K) rfl) (pv 1) pe_int (fun _ _ => rfl)) (po_some (pe_op op_add (pv 3) pe_int)) po_none) (nomark _)))))) (pss_one (ps_ret pe_bl)) pss_nil)
      (pss_cons (ps_setC (i := 9) rfl sc_Lright.nd rfl (Or.inl rfl) (N := ["at", "k", "before", "after"]) (own := ["at"]) (caps := [3, 1, 2]) (CompScope.of (by kernel_rfl)) (pi_range1 (by rfl) Bt.b_range (pa_cons pe_int pa_nil)) (fun _ _ _ _ => (pg_name (i := 0) (show List.Nodup (["at", "k", "before", "after"] : List Str) by decide +kernel) rfl (Or.inl rfl))) (fun _ _ _ _ => (pts_one (pt_cmpR op_ne (pe_ix (ix_listK (K := K) rfl) (pe_ix (ix_listK (K := K) rfl) (pe_ix (ix_tupK (K := K) rfl) (pv 2) pe_int (fun _ _ => rfl)) (pv 1) (fun _ _ => rfl)) (pv 0) (fun _ _ => rfl)) (pe_ix (ix_listK (K := K) rfl) (pe_ix (ix_listK (K := K) rfl) (pe_ix (ix_tupK (K := K) rfl) (pv 3) pe_int (fun _ _ => rfl)) (pv 1) (fun _ _ => rfl)) (pv 0) (fun _ _ => rfl)) (nomark _)))) (fun _ _ _ _ => (pv 0)))
      (pss_cons (ps_if (pt_cmpR (op_eqDK (K := K) rfl hu64) (pv 9) (pe_lst pa_nil) (nomark _)) (pss_one (ps_ret (pe_and (pe_cmpR op_eq (pv 6) (pv 7) (nomark _)) (pe_one (pe_cmpR (op_in_seqK (K := K) rfl) (pv 7) (pe_ix (ix_listK (K := K) rfl) (pe_ix (ix_tupK (K := K) rfl) (pv 1) pe_int (fun _ _ => rfl)) (pv 3) (fun _ _ => rfl)) (by with_unfolding_all rfl)))))) pss_nil)
      (pss_one (ps_ret (pe_and (pe_cmpR op_eq (pe_callB (call_len_seqK (K := K) rfl) (by rfl) Bt.b_len bt_len (pa_cons (pv 9) pa_nil)) pe_int (nomark _)) (pe_and (pe_cmpR op_eq (pe_ix (ix_listK (K := K) rfl) (pe_ix (ix_listK (K := K) rfl) (pe_ix (ix_tupK (K := K) rfl) (pv 1) pe_int (fun _ _ => rfl)) (pv 3) (fun _ _ => rfl)) (pe_ix (ix_listK (K := K) rfl) (pv 9) pe_int (fun _ _ => rfl)) (fun _ _ => rfl)) (pv 7) (nomark _)) (pe_one (pe_cmpR op_eq (pe_ix (ix_listK (K := K) rfl) (pe_ix (ix_listK (K := K) rfl) (pe_ix (ix_tupK (K := K) rfl) (pv 2) pe_int (fun _ _ => rfl)) (pv 3) (fun _ _ => rfl)) (pe_ix (ix_listK (K := K) rfl) (pv 9) pe_int (fun _ _ => rfl)) (fun _ _ => rfl)) (pv 6) (nomark _)))))))))))))), ?_⟩
    have lc := (List.getElem?_eq_some_iff.mp ec).1
    have lk := (List.getElem?_eq_some_iff.mp ek).1
    have lb8 := (List.getElem?_eq_some_iff.mp eb).1
    refine ⟨_, rfl, tt, _, rfl, SqT.of ht, rfl, _, _, rfl, _, _, rfl, _, _, rfl, _, _, rfl, rfl, ?_⟩
    refine ⟨_, rfl, _, _, _, _, rfl, rfl, SqT.of hB.b, rfl, cb, _, rfl, .inl (SqL.of hB.c), fun d hd => ?_⟩
    have sd := same_new (o := HO.lst (ns.map V.int)) hd
    have ed : (upd H d (.lst (ns.map V.int))) d = some (.lst (ns.map V.int)) := upd_same
    generalize hH1 : (upd H d (.lst (ns.map V.int))) = H1 at sd ed ⊢
    refine ⟨_, rfl, rfl, _, rfl, ?_⟩
    refine iteNS rfl ?_
    refine ⟨_, rfl, _, _, rfl, rfl, _, rfl, ?_⟩
    rw [decide_eq_true (show (0 : Int) ≤ (c : Int) by omega)]
    refine iteT ?_
    refine ⟨_, rfl, d, _, rfl, .inl (SqL.of ed), _, _, rfl, rfl, _, rfl, ?_⟩
    rw [List.length_map, decide_eq_true (show (c : Int) < (ns.length : Int) by omega)]
    refine iteF ?_
    refine ⟨_, rfl, _, rfl, _, _, _, _, rfl, rfl, SqL.of ed, atI_nat (v := .int x) (by rw [List.getElem?_map, ec]; rfl), _, rfl, rfl, _, rfl, ?_⟩
    refine iteNS rfl ?_
    refine ⟨_, rfl, _, rfl, _, rfl, d, _, _, c, rfl, rfl, ed, (by rw [List.length_map]; exact ix_in lc), ?_⟩
    have e2 : (upd H1 d (.lst ((ns.map V.int).set c (.int y)))) d = some (.lst ((ns.set c y).map V.int)) := by rw [upd_same, List.map_set]
    have s2 : Same H (upd H1 d (.lst ((ns.map V.int).set c (.int y)))) := sd.newly hd
    generalize (upd H1 d (.lst ((ns.map V.int).set c (.int y)))) = H2 at e2 s2 ⊢
    have A2 := hA.same s2
    have B2 := hB.same s2
    refine ⟨_, rfl, _, _, _, _, rfl, rfl, SqT.of A2.b, rfl, _, rfl, _, _, dat_ints A2.c, dat_ints e2, sh_ints' _, sh_ints' _, _, rfl, ?_⟩
    rw [if_pos rfl, show PyData.eqv (.list ((ns.set c y).map PyData.int)) (.list ((ns.set c y).map PyData.int)) = true from eqv_sh (sh_ints' (ns.set c y))]
    refine iteF ?_
    obtain ⟨as, eA, lA, hAs⟩ := id A2.l
    obtain ⟨bs, eB, lB, hBs⟩ := id B2.l
    -- the hands ahead
    refine ⟨_, rfl, _, _, _, _, rfl, rfl, SqT.of A2.b, rfl, _, rfl, _, rfl, _, _, rfl, SqL.of eA, fun p1 hp1 => ?_⟩
    rw [cut_take, ← List.map_take]
    have sp1 := same_new (o := HO.lst ((as.take k).map V.ref)) hp1
    refine ⟨_, rfl, _, _, _, _, rfl, rfl, SqT.of (sp1 _ _ B2.b), rfl, _, rfl, _, rfl, _, _, rfl, SqL.of (sp1 _ _ eB), fun p2 hp2 => ?_⟩
    rw [cut_take, ← List.map_take]
    have sp2 := same_new (o := HO.lst ((bs.take k).map V.ref)) hp2
    have d1 : LLI (upd (upd H2 p1 (.lst ((as.take k).map V.ref))) p2 (.lst ((bs.take k).map V.ref))) p1 (bss.take k) := ⟨as.take k, sp2 _ _ upd_same, by simp [lA], fun i a' b' h1 h2 => sp2 _ _ (sp1 _ _ (hAs i a' b' (by
        rw [List.getElem?_take] at h1; split at h1; exact h1; cases h1) (by
        rw [List.getElem?_take] at h2
        split at h2
        · rw [List.getElem?_set_ne (by omega)]; exact h2
        · cases h2)))⟩
    have d2 : LLI (upd (upd H2 p1 (.lst ((as.take k).map V.ref))) p2 (.lst ((bs.take k).map V.ref))) p2 (bss.take k) := ⟨bs.take k, upd_same, by simp [lB], fun i a' b' h1 h2 => sp2 _ _ (sp1 _ _ (hBs i a' b' (by
        rw [List.getElem?_take] at h1; split at h1; exact h1; cases h1) (by
        rw [List.getElem?_take] at h2; split at h2; exact h2; cases h2)))⟩
    refine ⟨_, _, lli_dat d1, lli_dat d2, sh_lists _, sh_lists _, _, rfl, ?_⟩
    rw [if_pos rfl, eqv_sh (sh_lists (bss.take k))]
    refine iteF ?_
    have S3 := sp1.trans sp2
    generalize (upd (upd H2 p1 (.lst ((as.take k).map V.ref))) p2 (.lst ((bs.take k).map V.ref))) = H3 at S3 ⊢
    clear d1 d2 sp1 sp2 hp1 hp2
    -- the hands behind
    have k1 : ((k : Int) + 1) = ((k + 1 : Nat) : Int) := by omega
    refine ⟨_, rfl, _, _, _, _, rfl, rfl, SqT.of (S3 _ _ A2.b), rfl, _, rfl, _, _, rfl, rfl, _, rfl, _, _, rfl, SqL.of (S3 _ _ eA), fun p1 hp1 => ?_⟩
    rw [k1, cut_drop, ← List.map_drop]
    have sp1 := same_new (o := HO.lst ((as.drop (k + 1)).map V.ref)) hp1
    refine ⟨_, rfl, _, _, _, _, rfl, rfl, SqT.of (sp1 _ _ (S3 _ _ B2.b)), rfl, _, rfl, _, _, rfl, rfl, _, rfl, _, _, rfl, SqL.of (sp1 _ _ (S3 _ _ eB)), fun p2 hp2 => ?_⟩
    rw [k1, cut_drop, ← List.map_drop]
    have sp2 := same_new (o := HO.lst ((bs.drop (k + 1)).map V.ref)) hp2
    have d1 : LLI (upd (upd H3 p1 (.lst ((as.drop (k + 1)).map V.ref))) p2 (.lst ((bs.drop (k + 1)).map V.ref))) p1 (bss.drop (k + 1)) := ⟨as.drop (k + 1), sp2 _ _ upd_same, by simp [lA], fun i a' b' h1 h2 => sp2 _ _ (sp1 _ _ (S3 _ _ (hAs (k + 1 + i) a' b' (by
        rw [List.getElem?_drop] at h1; exact h1) (by
        rw [List.getElem?_drop] at h2
        rw [List.getElem?_set_ne (by omega)]; exact h2))))⟩
    have d2 : LLI (upd (upd H3 p1 (.lst ((as.drop (k + 1)).map V.ref))) p2 (.lst ((bs.drop (k + 1)).map V.ref))) p2 (bss.drop (k + 1)) := ⟨bs.drop (k + 1), upd_same, by simp [lB], fun i a' b' h1 h2 => sp2 _ _ (sp1 _ _ (S3 _ _ (hBs (k + 1 + i) a' b' (by
        rw [List.getElem?_drop] at h1; exact h1) (by
        rw [List.getElem?_drop] at h2; exact h2))))⟩
    refine ⟨_, _, lli_dat d1, lli_dat d2, sh_lists _, sh_lists _, _, rfl, ?_⟩
    rw [if_pos rfl, eqv_sh (sh_lists (bss.drop (k + 1)))]
    refine iteF ?_
    have S4 := S3.trans (sp1.trans sp2)
    generalize (upd (upd H3 p1 (.lst ((as.drop (k + 1)).map V.ref))) p2 (.lst ((bs.drop (k + 1)).map V.ref))) = H4 at S4 ⊢
    clear d1 d2 sp1 sp2 hp1 hp2 S3
    -- this hand
    obtain ⟨az, eaz⟩ : ∃ a', as[k]? = some a' := ⟨_, List.getElem?_eq_getElem (by rw [lA, List.length_set]; exact lk)⟩
    obtain ⟨bz, ebz⟩ : ∃ a', bs[k]? = some a' := ⟨_, List.getElem?_eq_getElem (by rw [lB]; exact lk)⟩
    have hz1 := S4 _ _ (hBs k bz z ebz ek)
    have hz2 := S4 _ _ (hAs k az (z.set b x) eaz (by simp [lk]))
    have aB : atI (bs.map V.ref) (k : Int) = some (.ref bz) := atI_nat (by rw [List.getElem?_map, ebz]; rfl)
    have aA : atI (as.map V.ref) (k : Int) = some (.ref az) := atI_nat (by rw [List.getElem?_map, eaz]; rfl)
    refine ⟨_, rfl, by decide, by decide, fun D hD => ?_⟩
    refine comp_valR (n := 8) (fun i : Nat => if decide (gI z i ≠ gI (z.set b x) i) then some (V.int (i : Int)) else none) hD (by decide) (fun i H5 G F hi s5 kG kF => ?_) (fun H5 s5 e5 => ?_)
    · have S5 := S4.trans s5
      rw [Int.zero_add]
      refine ⟨_, rfl, _, _, _, _, rfl, rfl, SqT.of (S5 _ _ B2.b), rfl, _, rfl, _, _, _, _, rfl, rfl, SqL.of (S5 _ _ eB), aB, _, rfl, _, _, _, _, rfl, rfl, SqL.of (s5 _ _ hz1), atI_gI (by omega) (by omega), ?_⟩
      refine ⟨_, rfl, _, _, _, _, rfl, rfl, SqT.of (S5 _ _ A2.b), rfl, _, rfl, _, _, _, _, rfl, rfl, SqL.of (S5 _ _ eA), aA, _, rfl, _, _, _, _, rfl, rfl, SqL.of (s5 _ _ hz2), atI_gI (by omega) (by rw [List.length_set]; omega), rfl, _, rfl, ?_⟩
      by_cases e : gI z i = gI (z.set b x) i
      · refine iteNS (by rw [e]) ?_
        exact kG H5 (Same.refl _) (by simp [e])
      · refine ite2 (fun _ => ?_) (fun w => absurd (by simp [e]) w)
        exact ⟨_, rfl, kF _ H5 (Same.refl _) (by simp [e])⟩
    · rw [fil_one eb z8] at e5
      have S5 := S4.trans s5
      by_cases e : x = y
      · rw [if_pos e] at e5
        refine ⟨_, rfl, (by show 0 ≤ sizeLine; decide), fun p hp => ?_⟩
        have sp := same_new (o := HO.lst []) hp
        refine ⟨_, _, dat_ints (ns := []) (sp _ _ e5), dat_ints (ns := []) upd_same, sh_ints' [], sh_ints' [], _, rfl, ?_⟩
        rw [if_neg (by decide), show PyData.eqv (.list (([] : List Int).map PyData.int)) (.list (([] : List Int).map PyData.int)) = true from eqv_sh (sh_ints' [])]
        refine iteT ?_
        refine ⟨_, rfl, _, rfl, rfl, _, rfl, ?_⟩
        rw [e, decide_eq_true rfl]
        refine iteT ?_
        refine ⟨_, rfl, _, rfl, _, _, _, _, rfl, rfl, SqT.of (sp _ _ (S5 _ _ B2.b)), rfl, _, rfl, _, _, _, _, rfl, rfl, SqL.of (sp _ _ (S5 _ _ eB)), aB, bz, _, rfl, .inl (SqL.of (sp _ _ (s5 _ _ hz1))), rfl, flat_ints _, ?_⟩
        rw [inV_ints, List.contains_iff_mem.mpr (List.mem_of_getElem? eb)]
        exact q _ (s2.trans (S5.trans sp))
      · rw [if_neg e] at e5
        refine ⟨_, rfl, (by show 0 ≤ sizeLine; decide), fun p hp => ?_⟩
        have sp := same_new (o := HO.lst []) hp
        have e6 : (upd H5 p (.lst [])) D = some (.lst ([(b : Int)].map V.int)) := sp _ _ e5
        refine ⟨_, _, dat_ints (ns := [(b : Int)]) e6, dat_ints (ns := []) upd_same, sh_ints' [(b : Int)], sh_ints' [], _, rfl, ?_⟩
        rw [if_neg (by decide), eqv_list PyData.int eqv_int]
        refine ite2 (fun w => absurd (of_decide_eq_true w) (by simp)) (fun _ => ?_)
        have S6 := S5.trans sp
        have g6 := sp _ _ (s5 _ _ hz1)
        have g7 := sp _ _ (s5 _ _ hz2)
        refine ⟨_, rfl, D, _, rfl, .inl (SqL.of e6), rfl, _, rfl, ?_⟩
        rw [List.length_map, List.length_singleton]
        refine ite2 (fun _ => ?_) (fun w => absurd (by rfl) w)
        refine ⟨_, rfl, _, _, _, _, rfl, rfl, SqT.of (S6 _ _ B2.b), rfl, _, rfl, _, _, _, _, rfl, rfl, SqL.of (S6 _ _ eB), aB, _, rfl, _, _, _, _, rfl, rfl, SqL.of e6, rfl, _, _, _, _, rfl, rfl, SqL.of g6, atI_nat (v := .int y) (by rw [List.getElem?_map, eb]; rfl), _, rfl, rfl, _, rfl, ?_⟩
        rw [decide_eq_true rfl]
        refine iteT ?_
        refine ⟨_, rfl, _, _, _, _, rfl, rfl, SqT.of (S6 _ _ A2.b), rfl, _, rfl, _, _, _, _, rfl, rfl, SqL.of (S6 _ _ eA), aA, _, rfl, _, _, _, _, rfl, rfl, SqL.of e6, rfl, _, _, _, _, rfl, rfl, SqL.of g7, atI_nat (v := .int x) (by rw [List.getElem?_map]; simp [lb8]), _, rfl, rfl, ?_⟩
        rw [decide_eq_true rfl]
        exact q _ (s2.trans S6)

/-! ### what is never written again -/
def nt (H H' : Hp) : Hp := fun x => match H' x with
  | some (.tup xs) => some (.tup xs)
  | o => match H x with
    | none => o
    | some _ => none
theorem nt_tup {H H' : Hp} {x : Addr} {xs : List V} (e : H' x = some (.tup xs)) : nt H H' x = some (.tup xs) := by unfold nt; rw [e]
theorem nt_at {H H' : Hp} {x : Addr} {o : HO} (n : H x = none) (e : H' x = some o) : nt H H' x = some o := by
  unfold nt
  rw [e, n]
  cases o <;> rfl
theorem nt_inv {H H' : Hp} {x : Addr} {o : HO} (e : nt H H' x = some o) : H' x = some o ∧ ((∃ xs, o = .tup xs) ∨ H x = none) := by
  unfold nt at e
  split at e
  · rename_i xs q
    cases e
    exact ⟨q, .inl ⟨_, rfl⟩⟩
  · cases q : H x with
    | none => rw [q] at e; exact ⟨e, .inr rfl⟩
    | some u => rw [q] at e; cases e
def sub0 (τ : Tg) (H : Hp) : Hp := fun x => match H x with
  | some (.tup xs) => some (.tup xs)
  | o => if τ x = [0] then o else none
theorem sub0_tup {τ : Tg} {H : Hp} {x : Addr} {xs : List V} (e : H x = some (.tup xs)) : sub0 τ H x = some (.tup xs) := by unfold sub0; rw [e]
theorem sub0_at {τ : Tg} {H : Hp} {x : Addr} {o : HO} (t : τ x = [0]) (e : H x = some o) : sub0 τ H x = some o := by
  unfold sub0
  rw [e]
  cases o <;> simp only [t, if_true] <;> rfl
theorem sub0_inv {τ : Tg} {H : Hp} {x : Addr} {o : HO} (e : sub0 τ H x = some o) : H x = some o ∧ ((∃ xs, o = .tup xs) ∨ τ x = [0]) := by
  unfold sub0 at e
  split at e
  · rename_i xs q
    cases e
    exact ⟨q, .inl ⟨_, rfl⟩⟩
  · by_cases t : τ x = [0]
    · rw [if_pos t] at e; exact ⟨e, .inr t⟩
    · rw [if_neg t] at e; cases e
theorem sub0_same (τ : Tg) (H : Hp) : Same (sub0 τ H) H := fun x o e => (sub0_inv e).1
theorem sub0_mv {i : Nat} {τ τ' : Tg} {H H' : Hp} (q : Mv i τ H τ' H') : Same (sub0 τ H) (sub0 τ' H') := fun x o e => by
  obtain ⟨e, ⟨xs, rfl⟩ | t⟩ := sub0_inv e
  · exact sub0_tup (q.tup _ _ e)
  · have := q.keep x o e (.inl t)
    exact sub0_at (this.2.trans t) this.1
theorem sub0_stp {i : Nat} {τ : Tg} {H H' : Hp} (q : Stp i τ H H') (i0 : i ≠ 0) : Same (sub0 τ H) (sub0 τ H') := fun x o e => by
  obtain ⟨e, ⟨xs, rfl⟩ | t⟩ := sub0_inv e
  · exact sub0_tup (q.tup _ _ e)
  · exact sub0_at t (q.keep x o e (by rw [t]; intro z; exact i0 (Option.some.inj z).symm))
/-- all that is new is tagged -/
def tgN (τ : Tg) (H H' : Hp) : Tg := fun x => match H x with
  | some _ => τ x
  | none => match H' x with
    | some _ => [0]
    | none => τ x
theorem tgN_old {τ : Tg} {H H' : Hp} {x : Addr} {o : HO} (e : H x = some o) : tgN τ H H' x = τ x := by unfold tgN; rw [e]
theorem tgN_new {τ : Tg} {H H' : Hp} {x : Addr} {o : HO} (n : H x = none) (e : H' x = some o) : tgN τ H H' x = [0] := by unfold tgN; rw [n]; simp only [e]
theorem tgN_un {τ : Tg} {H H' : Hp} (k : Same H H') (u : Unt τ H) : Unt (tgN τ H H') H' := fun x e => by
  have n := k.free e
  unfold tgN
  rw [n]
  simp only [e]
  exact u x n
theorem nt_sub {τ : Tg} {H H' : Hp} : Same (nt H H') (sub0 (tgN τ H H') H') := fun x o e => by
  obtain ⟨e, ⟨xs, rfl⟩ | n⟩ := nt_inv e
  · exact sub0_tup e
  · exact sub0_at (tgN_new n e) e

theorem sql_keep {K : PySem.W.Frag} {H H' : Hp} {a : Addr} {xs : List V} (h : SqL K H a xs) (k : ∀ o, H a = some o → H' a = some o) : SqL K H' a xs := by
  rcases h with (h | ⟨o, h⟩) | h
  · exact .inl (.inl (k _ h))
  · exact .inl (.inr ⟨o, k _ h⟩)
  · exact .inr h

theorem turn_go {CW CH CN CO : Addr} {i : Nat} {τ : Tg} {H : Hp} {W : WAd} {S : WkS} {k : Nat} {s : HandS} {Q : VK} (w : WAt CW CH i τ H W S) (tl : S.ts.length ≤ 10000) (es : S.hs[k]? = some s) (ws : s.st = "waits")
    (go : ∀ (r : Rw) (t : Addr) (H' : Hp), s.rws[s.pos]? = some r → touch r = true → H t = none → H' t = some (.tup (touchV S.ns s.bs r)) → WAt CW CH i τ H' W (turnS S k) → Stp i τ H H' → Q (.ref t) H') : spTurn CW CH CN CO K [.ref W.o, .int k] H Q (fun _ _ _ => False) := by
  have kl := (List.getElem?_eq_some_iff.mp es).1
  have inn : inP (k : Int) S.hs.length := ⟨by omega, by omega⟩
  have one : ∀ (k' : Nat) (t : HandS), (k : Int) = k' → S.hs[k']? = some t → t = s ∧ k' = k := fun k' t e1 e2 => by
    have : k' = k := by omega
    subst this
    rw [es] at e2
    exact ⟨(Option.some.inj e2).symm, rfl⟩
  refine ⟨i, τ, W, S, _, rfl, w, tl, fun k' t' r' tt Hk e1 e2 wt' er' tr' tf tk wk stk => ?_, fun z => absurd inn z, fun k' t' e1 e2 z => absurd (by rw [(one k' t' e1 e2).1]; exact ws) z⟩
  obtain ⟨rfl, rfl⟩ := one k' t' e1 e2
  exact go r' tt Hk er' tr' tf tk wk stk

theorem fm_wait (hs : List HandS) (n : Nat) : (List.range n).filterMap (fun i => if waitB hs i then some (V.int (i : Nat)) else none) = ((List.range n).filter (waitB hs)).map fun k : Nat => V.int k := fm_fil (waitB hs) (fun k : Nat => V.int k) n

/-! the law's hands -/
structure Hs85 (τ : Tg) (H : Hp) (m : Nat) (a : Addr) (tu : List (Addr × Addr × Addr)) (hs : List (List Rw × List Int)) : Prop where
  ea : H a = some (.lst (tu.map fun t => V.ref t.1))
  ta : τ a = [0]
  len : tu.length = hs.length
  get : ∀ (k : Nat) (t : Addr × Addr × Addr) (h : List Rw × List Int), tu[k]? = some t → hs[k]? = some h → H t.1 = some (.tup [.ref t.2.1, .ref t.2.2]) ∧ τ t.2.1 = [0] ∧ τ t.2.2 = [0] ∧ RowsH H t.2.1 m h.1 ∧ H t.2.2 = some (.lst (h.2.map V.int)) ∧ Ok85 m h.1 h.2
theorem Hs85.mv {i : Nat} {τ τ' : Tg} {H H' : Hp} {m : Nat} {a : Addr} {tu : List (Addr × Addr × Addr)} {hs : List (List Rw × List Int)} (g : Hs85 τ H m a tu hs) (q : Mv i τ H τ' H') : Hs85 τ' H' m a tu hs := by
  have e := q.keep _ _ g.ea (.inl g.ta)
  refine ⟨e.1, e.2.trans g.ta, g.len, fun k t h h1 h2 => ?_⟩
  obtain ⟨a1, a2, a3, a4, a5, a6⟩ := g.get k t h h1 h2
  have e2 := q.keep _ _ a5 (.inl a3)
  have r := rows_mv (i := i) ⟨a2, a4⟩ q
  exact ⟨q.tup _ _ a1, r.1, e2.2.trans a3, r.2, e2.1, a6⟩
theorem Hs85.same {τ : Tg} {H H' : Hp} {m : Nat} {a : Addr} {tu : List (Addr × Addr × Addr)} {hs : List (List Rw × List Int)} (g : Hs85 τ H m a tu hs) (k : Same H H') : Hs85 τ H' m a tu hs := g.mv (Mv.of_same (i := 0) k)
def spLaw (K : PySem.W.Frag) : Sp := fun vs H Q _ => ∃ (a : Addr) (ns : List Int), vs = [.ref a] ∧ SqL K H a (ns.map V.int) ∧ ns.length ≤ 63 ∧ ∀ H', Q (.bl true) H'
def pairD (ns : List Int) (bss : List (List Int)) : PyData := .tuple [intsD ns, .list (bss.map intsD)]
theorem dat_pair {H : Hp} {B c l : Addr} {ns : List Int} {bss : List (List Int)} (h : Bef85 H B c l ns bss) : Dat H (.ref B) (pairD ns bss) := by
  simp only [pairD, Dat]
  refine ⟨B, _, rfl, h.b, ?_⟩
  have := lli_dat h.l
  simp only [Dats, and_true]
  exact ⟨dat_ints h.c, this⟩
theorem sh_pair (ns : List Int) (bss : List (List Int)) : SeqAt.shaped (pairD ns bss) = true := by
  have e0 := sh_lists bss
  unfold SeqAt.shaped at e0
  rw [Bool.and_eq_true] at e0
  have e1 : PyData.canLay0 (pairD ns bss) = true := by
    show (PyData.canLay0 (intsD ns) && (PyData.canLay0 (.list (bss.map intsD)) && true)) = true
    rw [(can_ints ns).1, e0.1]; rfl
  have e2 := depthAll_map intsD 1 bss fun s _ => (can_ints s).2
  have e3 := (can_ints ns).2
  unfold SeqAt.shaped
  rw [e1, decide_eq_true (show (pairD ns bss).depth ≤ 64 by show max (intsD ns).depth (max (PyData.depthAll (bss.map intsD) + 1) 0) + 1 ≤ 64; omega)]; rfl
/-- all that is told, new -/
theorem bef_new {τ : Tg} {H H1 H2 : Hp} {t c l : Addr} {ns : List Int} {bss : List (List Int)} (f1 : H c = none) (e1 : H1 c = some (.lst (ns.map V.int))) (s1 : Same H H1) (l2 : LLI (nw H1 H2) l bss) (s2 : Same H1 H2) (ht : H2 t = none) : Bef85 (sub0 (tgN τ H (upd H2 t (.tup [.ref c, .ref l]))) (upd H2 t (.tup [.ref c, .ref l]))) t c l ns bss := by
  have st := same_new (o := HO.tup [V.ref c, V.ref l]) ht
  refine Bef85.same (H := nt H (upd H2 t (.tup [.ref c, .ref l]))) ⟨nt_tup upd_same, nt_at f1 (st _ _ (s2 _ _ e1)), ?_⟩ nt_sub
  refine l2.same fun x o e => ?_
  obtain ⟨n, h⟩ := nw_inv e
  exact nt_at (s1.free n) (st _ _ h)

theorem ok_law {C_Works C_Hand C_NoHand C_NoNumber C_Over : Addr} {f : Addr} {fd : FuncData} (F : Fun K "law" "law" s_law f fd) (F_Lreel : FnAt P w K mg base 1 "_law_reel" ["script"] (spReelP K)) (F_Ldraw : FnAt P w K mg base 1 "_law_draw" ["reel", "many"] (spDrawP K)) (F_Lhand : FnAt P w K mg base 3 "_law_hand" ["reel", "many"] (spHand85 K)) (N_Works : MakeAt P w K mg base 7 C_Works "Works" ["self", "program", "cells"] [] (fun vs H Q _ => spWInit C_Works C_Hand C_NoNumber K vs H Q fun _ _ _ => False)) (M_Works_cells : MethAt P w K mg base 1 C_Works "cells" ["self"] (spCells C_Works C_Hand K)) (M_Works_how : MethAt P w K mg base 4 C_Works "how" ["self", "hand"] (fun vs H Q _ => spHow C_Works C_Hand C_NoHand K vs H Q fun _ _ _ => False)) (M_Works_turn : MethAt P w K mg base 7 C_Works "turn" ["self", "hand"] (fun vs H Q _ => spTurn C_Works C_Hand C_NoHand C_Over K vs H Q fun _ _ _ => False)) (F_Lboxes : FnAt P w K mg base 5 "_law_boxes" ["one", "many"] (spBoxes85 C_Works C_Hand K)) (F_Lsorted : FnAt P w K mg base 1 "_law_sorted" ["numbers", "boxes"] (spSorted85 K)) (F_Lright : FnAt P w K mg base 1 "_law_right" ["told", "before", "after", "k"] (spRight85 K)) (Z_Works : Cl_Works K C_Works) (Bt : Blt mg) : FnOk P w K mg base CX0 9 f fd ["script"] (spLaw K) := by
  refine F.ok sc_law (fun vs H Q E h => ?_) (fun cdv A outer s H vs Q E hr h => ?_)
  · obtain ⟨a, ns, rfl, _⟩ := h
    rfl
  · obtain ⟨sc, ns0, rfl, hs0, hlen, fin⟩ := h
    have hu64 := hr.units
    refine ⟨_, (pss_cons (ps_set (i := 1) sc_law.nd rfl (Or.inr rfl) (pe_fn F_Lreel (hr.mono (by decide)) (by rfl) (pa_cons (pv 0) pa_nil)))
      (pss_cons (ps_set (i := 2) sc_law.nd rfl (Or.inr rfl) (pe_op op_add pe_int (pe_fn F_Ldraw (hr.mono (by decide)) (by rfl) (pa_cons (pv 1) (pa_cons pe_int pa_nil)))))
      (pss_cons (ps_setC (i := 3) rfl sc_law.nd rfl (Or.inl rfl) (N := ["k", "reel", "many"]) (own := ["k"]) (caps := [1, 2]) (CompScope.of (by kernel_rfl)) (pi_range1 (by rfl) Bt.b_range (pa_cons (pe_op op_add pe_int (pe_fn F_Ldraw (hr.mono (by decide)) (by rfl) (pa_cons (pv 1) (pa_cons pe_int pa_nil)))) pa_nil)) (fun _ _ _ _ => (pg_name (i := 0) (show List.Nodup (["k", "reel", "many"] : List Str) by decide +kernel) rfl (Or.inl rfl))) (fun _ _ _ _ => pts_nil) (fun _ _ _ _ => (pe_fn F_Lhand (hr.mono (by decide)) (by rfl) (pa_cons (pv 1) (pa_cons (pv 2) pa_nil)))))
      (pss_cons (ps_setC (i := 4) rfl sc_law.nd rfl (Or.inl rfl) (N := ["k", "reel"]) (own := ["k"]) (caps := [1]) (CompScope.of (by kernel_rfl)) (pi_range1 (by rfl) Bt.b_range (pa_cons (pv 2) pa_nil)) (fun _ _ _ _ => (pg_name (i := 0) (show List.Nodup (["k", "reel"] : List Str) by decide +kernel) rfl (Or.inl rfl))) (fun _ _ _ _ => pts_nil) (fun _ _ _ _ => (pe_fn F_Ldraw (hr.mono (by decide)) (by rfl) (pa_cons (pv 1) (pa_cons pe_int pa_nil)))))
      (pss_cons (ps_set (i := 5) sc_law.nd rfl (Or.inr rfl) (pe_makeA N_Works (hr.mono (by decide)) (by rfl) (pa_cons (pe_tup (pa_cons (pv 2) (pa_cons (pe_comp rfl (N := ["rows", "boxes"]) (own := ["rows", "boxes"]) (caps := []) (CompScope.of (by kernel_rfl)) (pi_listK (K := K) rfl (pv 3)) (fun _ _ _ _ => (pg_tupK (K := K) (n := 2) rfl rfl (pgs_cons (pg_name (i := 0) (show List.Nodup (["rows", "boxes"] : List Str) by decide +kernel) rfl (Or.inl rfl)) (pgs_cons (pg_name (i := 1) (show List.Nodup (["rows", "boxes"] : List Str) by decide +kernel) rfl (Or.inl rfl)) pgs_nil)))) (fun _ _ _ _ => pts_nil) (fun _ _ _ _ => (pv 0))) pa_nil))) (pa_cons (pv 4) pa_nil))))
      (pss_cons (ps_set (i := 6) sc_law.nd rfl (Or.inl rfl) (pe_tup (pa_cons (pe_methA0 M_Works_cells Z_Works.cls (hr.mono (by decide)) (pv 5)) (pa_cons (pe_fn F_Lboxes (hr.mono (by decide)) (by rfl) (pa_cons (pv 5) (pa_cons (pe_callB (call_len_seqK (K := K) rfl) (by rfl) Bt.b_len bt_len (pa_cons (pv 3) pa_nil)) pa_nil))) pa_nil))))
      (pss_cons (ps_if (pt_cmpR (op_neDK (K := K) rfl hu64) (pv 6) (pe_tup (pa_cons (pv 4) (pa_cons (pe_comp rfl (N := ["rows", "boxes"]) (own := ["rows", "boxes"]) (caps := []) (CompScope.of (by kernel_rfl)) (pi_listK (K := K) rfl (pv 3)) (fun _ _ _ _ => (pg_tupK (K := K) (n := 2) rfl rfl (pgs_cons (pg_name (i := 0) (show List.Nodup (["rows", "boxes"] : List Str) by decide +kernel) rfl (Or.inl rfl)) (pgs_cons (pg_name (i := 1) (show List.Nodup (["rows", "boxes"] : List Str) by decide +kernel) rfl (Or.inl rfl)) pgs_nil)))) (fun _ _ _ _ => pts_nil) (fun _ _ _ _ => (pv 1))) pa_nil))) (nomark _)) (pss_one (ps_ret pe_bl)) pss_nil)
      (pss_cons (ps_set (i := 7) sc_law.nd rfl (Or.inl rfl) (pe_fn F_Lsorted (hr.mono (by decide)) (by rfl) (pa_cons (pe_ix (ix_tupK (K := K) rfl) (pv 6) pe_int (fun _ _ => rfl)) (pa_cons (pe_ix (ix_tupK (K := K) rfl) (pv 6) pe_int (fun _ _ => rfl)) pa_nil))))
      (pss_cons (ps_for PassesOwn.never rfl (pi_range1 (by rfl) Bt.b_range (pa_cons (pe_op op_add pe_int (pe_callB (call_min2 rfl) (by rfl) Bt.b_min bt_min (pa_cons (pe_callB (call_len_seqK (K := K) rfl) (by rfl) Bt.b_len bt_len (pa_cons (pv 0) pa_nil)) (pa_cons pe_int pa_nil)))) pa_nil)) (pg_name (i := 8) sc_law.nd rfl (Or.inl rfl))
      (pss_cons (ps_setC (i := 9) rfl sc_law.nd rfl (Or.inl rfl) (N := ["k", "one"]) (own := ["k"]) (caps := [5]) (CompScope.of (by kernel_rfl)) (pi_range1 (by rfl) Bt.b_range (pa_cons (pe_callB (call_len_seqK (K := K) rfl) (by rfl) Bt.b_len bt_len (pa_cons (pv 3) pa_nil)) pa_nil)) (fun _ _ _ _ => (pg_name (i := 0) (show List.Nodup (["k", "one"] : List Str) by decide +kernel) rfl (Or.inl rfl))) (fun _ _ _ _ => (pts_one (pt_cmpR op_eq (pe_methA M_Works_how Z_Works.cls (hr.mono (by decide)) (pv 1) (pa_cons (pv 0) pa_nil)) pe_str (nomark _)))) (fun _ _ _ _ => (pv 0)))
      (pss_cons (ps_if (pt_cmpR (op_eqDK (K := K) rfl hu64) (pv 9) (pe_lst pa_nil) (nomark _)) (pss_one (ps_ret pe_bl)) pss_nil)
      (pss_cons (ps_set (i := 10) sc_law.nd rfl (Or.inl rfl) (pe_ix (ix_listK (K := K) rfl) (pv 9) (pe_fn F_Ldraw (hr.mono (by decide)) (by rfl) (pa_cons (pv 1) (pa_cons (pe_callB (call_len_seqK (K := K) rfl) (by rfl) Bt.b_len bt_len (pa_cons (pv 9) pa_nil)) pa_nil))) (fun _ _ => rfl)))
      (pss_cons (ps_set (i := 11) sc_law.nd rfl (Or.inl rfl) (pe_methA M_Works_turn Z_Works.cls (hr.mono (by decide)) (pv 5) (pa_cons (pv 10) pa_nil)))
      (pss_cons (ps_set (i := 12) sc_law.nd rfl (Or.inl rfl) (pe_tup (pa_cons (pe_methA0 M_Works_cells Z_Works.cls (hr.mono (by decide)) (pv 5)) (pa_cons (pe_fn F_Lboxes (hr.mono (by decide)) (by rfl) (pa_cons (pv 5) (pa_cons (pe_callB (call_len_seqK (K := K) rfl) (by rfl) Bt.b_len bt_len (pa_cons (pv 3) pa_nil)) pa_nil))) pa_nil))))
      (pss_cons (ps_if (PW.pt (pw_or (pt_not (pt_val (pe_fn F_Lright (hr.mono (by decide)) (by rfl) (pa_cons (pv 11) (pa_cons (pv 6) (pa_cons (pv 12) (pa_cons (pv 10) pa_nil))))))) (pw_or1 (pt_cmpR (op_neDK (K := K) rfl hu64) (pe_fn F_Lsorted (hr.mono (by decide)) (by rfl) (pa_cons (pe_ix (ix_tupK (K := K) rfl) (pv 12) pe_int (fun _ _ => rfl)) (pa_cons (pe_ix (ix_tupK (K := K) rfl) (pv 12) pe_int (fun _ _ => rfl)) pa_nil))) (pv 7) (nomark _))))) (pss_one (ps_ret pe_bl)) pss_nil)
      (pss_one (ps_set (i := 6) sc_law.nd rfl (Or.inl rfl) (pv 12))))))))))
      (pss_one (ps_ret pe_bl))))))))))), ?_⟩
    refine ⟨_, rfl, sc, ns0, rfl, hs0, hlen, fun r H1 hr0 R1 s1 => ?_⟩
    have T1 : RT (fun _ => []) H1 r := ⟨R1, fun x o e n => absurd rfl n, fun x e => rfl⟩
    refine ⟨_, rfl, r, 20, rfl, R1, by decide, by decide, fun i H2 i0 i1 R2 k2 => ⟨_, _, rfl, rfl, ?_⟩⟩
    have T2 := T1.draw k2 R2
    obtain ⟨m, em, m0, m20⟩ : ∃ m : Nat, (1 : Int) + i = m ∧ 0 < m ∧ m ≤ 20 := ⟨(1 + i).toNat, by omega, by omega, by omega⟩
    dsimp only [gName]
    rw [em]
    have hscr : ∀ o, H sc = some o → sc ≠ r := fun o e => ne_of_none e hr0
    have kp2 : Kp r H H2 := (Kp.of_same s1).trans k2.1
    -- the hands
    refine ⟨_, rfl, r, 8, rfl, R2, by decide, by decide, fun nh H3 n0 n1 R3 k3 => ⟨_, _, rfl, rfl, _, rfl, by omega, by omega, fun D hD => ?_⟩⟩
    have T3 := T2.draw k3 R3
    obtain ⟨n, en, n1', n8⟩ : ∃ n : Nat, (1 : Int) + nh = n ∧ 0 < n ∧ n ≤ 8 := ⟨(1 + nh).toNat, by omega, by omega, by omega⟩
    rw [en, Int.toNat_natCast]
    have sD := same_new (o := HO.lst []) hD
    have kp3 : Kp r H H3 := kp2.trans k3.1
    have nDr : D ≠ r := R3.ne hD
    have hD0 : H D = none := kp_none kp3 nDr hD
    have TD := T3.claim (t := [0]) sD hD ⟨_, upd_same⟩
    have tD : tgSet (fun _ => []) D [0] D = [0] := tgSet_same
    refine comp_range (lo := 0) (n := n) (fun j σ Hc => ∃ (v : Option V) (τc : Tg) (tu : List (Addr × Addr × Addr)) (hs : List (List Rw × List Int)), σ = [v, some (.ref r), some (.int m)] ∧ RT τc Hc r ∧ Hs85 τc Hc m D tu hs ∧ hs.length = j ∧ (∀ t ∈ tu, t.2.1 ≠ D ∧ t.2.2 ≠ D) ∧ Kp r H Hc) ?_ ?_ ?_
    · exact ⟨none, _, [], [], rfl, TD, ⟨upd_same, tD, rfl, fun k t h e => by simp at e⟩, rfl, by simp, kp3.trans (Kp.of_same sD)⟩
    · rintro j σ Hc hj ⟨v, τc, tu, hs, rfl, Tc, Hsc, lj, nD, kpc⟩
      dsimp only [gName, tAll]
      rw [if_pos rfl]
      refine ⟨_, rfl, _, rfl, r, τc, m, rfl, Tc, m0, m20, fun t l b rws bx τ' H' et tl tb Rl eb ok T' tg' dr' fl fb => ?_⟩
      have mvc : Mv 0 τc Hc τ' H' := ⟨fun x o e q => ⟨dr'.k x o e (by rcases q with q | q; rw [q]; simp; intro z; rw [z] at q; cases q), tg' x o e⟩, dr'.t⟩
      have Hs' := Hsc.mv mvc
      have nlD : l ≠ D := (ne_of_none Hsc.ea fl).symm
      have nbD : b ≠ D := (ne_of_none Hsc.ea fb).symm
      have tu' : ∀ x xs, H' x = some (.tup xs) → (upd H' D (.lst (tu.map (fun t => V.ref t.1) ++ [V.ref t]))) x = some (.tup xs) := fun x xs e => by rw [upd_ne (ne_of e Hs'.ea (by intro z; cases z))]; exact e
      refine ⟨_, Hs'.ea, (by rw [List.length_map, Hs'.len, sizeLine_eq]; omega), _, τ', tu ++ [(t, l, b)], hs ++ [(rws, bx)], rfl, T'.set Hs'.ea (by rw [Hs'.ta]; simp), ⟨by rw [upd_same, List.map_append]; rfl, Hs'.ta, by simp [Hs'.len], fun k q h h1 h2 => ?_⟩, by simp [lj], ?_, fun x o e n' => ?_⟩
      · rcases get_snoc h2 with h2 | ⟨ek, rfl⟩
        · have kl := (List.getElem?_eq_some_iff.mp h2).1
          rw [List.getElem?_append_left (by rw [Hs'.len]; exact kl)] at h1
          obtain ⟨a1, a2, a3, a4, a5, a6⟩ := Hs'.get k q h h1 h2
          obtain ⟨b1, b2⟩ := nD q (List.mem_of_getElem? h1)
          exact ⟨tu' _ _ a1, a2, a3, a4.keep (fun o e => by rw [upd_ne b1]; exact e) tu', by rw [upd_ne b2]; exact a5, a6⟩
        · rcases get_snoc h1 with h1 | ⟨_, rfl⟩
          · have := (List.getElem?_eq_some_iff.mp h1).1; rw [Hs'.len] at this; omega
          · exact ⟨tu' _ _ et, tl, tb, Rl.keep (fun o e => by rw [upd_ne nlD]; exact e) tu', by rw [upd_ne nbD]; exact eb, ok⟩
      · intro q hq
        rcases List.mem_append.mp hq with hq | hq
        · exact nD q hq
        · rw [List.mem_singleton.mp hq]; exact ⟨nlD, nbD⟩
      · rw [upd_ne (ne_of_none e hD0)]
        exact dr'.p _ _ (kpc _ _ e n') n'
    rintro σ H4 ⟨v, τ4, tu, hs, rfl, T4, Hs4, lhs, _, kp4⟩
    -- the numbers
    refine ⟨_, rfl, _, rfl, by omega, by omega, fun N hN => ?_⟩
    rw [Int.toNat_natCast]
    refine T4.drawn (n := m) (m := 1000) hN (by omega) (fun v Hd F Rd kF => ⟨_, rfl, r, 1000, rfl, Rd, by decide, by decide, fun y H' y0 y1 R' k' => kF y H' y0 y1 R' k'⟩) (fun xs H5 lx ox eN T5 kd td kp5 => ?_)
    have hN4 : ∀ x u, H4 x = some u → tgSet τ4 N [0] x = τ4 x := fun x u e => tgSet_ne (ne_of_none e hN)
    have mv5 : Mv 0 τ4 H4 (tgSet τ4 N [0]) H5 := ⟨fun x o e q => ⟨kd x o e (by rcases q with q | q; rw [q]; simp; intro z; rw [z] at q; cases q), hN4 x o e⟩, td⟩
    have Hs5 := Hs4.mv mv5
    have tN : tgSet τ4 N [0] N = [0] := tgSet_same
    have kpH5 : Kp r H H5 := kp4.trans kp5
    generalize tgSet τ4 N [0] = τ5 at T5 hN4 mv5 Hs5 tN
    obtain ⟨ns, ens, nl, nok⟩ : ∃ ns : List Int, H5 N = some (.lst (ns.map V.int)) ∧ ns.length = m ∧ ∀ x ∈ ns, 0 ≤ x ∧ x < 1000 := ⟨xs.map fun c : Nat => (c : Int), by rw [eN, List.map_map]; rfl, by rw [List.length_map, lx], fun x hx => by
      obtain ⟨c, hc, rfl⟩ := List.mem_map.mp hx
      exact ⟨by omega, ox c hc⟩⟩
    -- the program
    refine ⟨_, rfl, _, rfl, D, rfl, ⟨_, SqL.of Hs5.ea⟩, fun L hL => ?_⟩
    refine comp_list (K := K) (xs := tu.map fun t => V.ref t.1) (fun j σ Hc => ∃ (u v : Option V), σ = [u, v] ∧ Same H5 Hc ∧ Hc L = some (.lst ((tu.take j).map fun t => V.ref t.2.1))) ?_ ?_ ?_ ?_
    · exact ⟨none, none, rfl, same_new hL, by rw [upd_same]; rfl⟩
    · rintro j σ Hc _ ⟨u, v, rfl, sc', _⟩
      exact SqL.of (sc' _ _ Hs5.ea)
    · rintro j x σ Hc hj ⟨u, v, rfl, sc', hLc⟩
      rw [List.getElem?_map] at hj
      obtain ⟨t, et, rfl⟩ : ∃ t, tu[j]? = some t ∧ x = .ref t.1 := by
        cases e : tu[j]? with
        | none => rw [e] at hj; cases hj
        | some t => rw [e] at hj; exact ⟨t, rfl, (Option.some.inj hj).symm⟩
      have jl := (List.getElem?_eq_some_iff.mp et).1
      obtain ⟨a1, _⟩ := Hs5.get j t (hs[j]'(by rw [← Hs5.len]; exact jl)) et (by simp)
      refine ⟨t.1, _, rfl, SqT.of (sc' _ _ a1), rfl, _, _, rfl, _, _, rfl, rfl, ?_⟩
      dsimp only [gName, tAll]
      rw [if_pos rfl]
      refine ⟨_, rfl, _, hLc, (by rw [List.length_map, List.length_take, Hs5.len, sizeLine_eq]; omega), _, _, rfl, sc'.newly hL, ?_⟩
      rw [upd_same, List.take_succ, et, List.map_append]
      rfl
    rintro σ H6 ⟨u, v, rfl, s56, hL6⟩
    rw [List.length_map, List.take_length] at hL6
    refine ⟨(by show 2 ≤ sizeLine; decide), fun p hp => ?_⟩
    have sp := same_new (o := HO.tup [V.int m, V.ref L]) hp
    have s57 := s56.trans sp
    have hL7 := sp _ _ hL6
    have hp7 := upd_same (H := H6) (a := p) (o := HO.tup [V.int m, V.ref L])
    generalize (upd H6 p (.tup [V.int m, V.ref L])) = H7 at sp s57 hL7 hp7 ⊢
    have Hs7 := Hs5.same s57
    have T7 := T5.same s57
    refine ⟨_, rfl, fun o dx ho hdx ndx => ?_⟩
    have ho' : (upd H7 dx (.own o)) o = none := by rw [upd_ne ndx.symm]; exact ho
    have sm : Same H7 (upd (upd H7 dx (.own o)) o (.ins C_Works dx [])) := (same_new hdx).trans (same_new ho')
    have good : numOkL (m : Int) ns := ⟨by rw [nl], nok⟩
    refine ⟨1, τ5, o, dx, p, L, tu.map (·.2.1), m, .ref N, ns, hs.map (·.1), rfl, upd_same, sm _ _ hp7, (by rw [List.map_map]; exact sm _ _ hL7), by rw [List.length_map, List.length_map, Hs7.len], fun kk q x h1 h2 => ?_, by rw [List.length_map]; omega, by omega, (T7.same sm).un, by decide, by omega, .inr ⟨N, rfl, sm _ _ (s57 _ _ ens)⟩, fun _ τ W H10 eo w10 tg kp => ⟨rfl, ?_⟩, fun bad => absurd good bad⟩
    · rw [List.getElem?_map] at h1 h2
      cases e1 : tu[kk]? with
      | none => rw [e1] at h1; cases h1
      | some t =>
        cases e2 : hs[kk]? with
        | none => rw [e2] at h2; cases h2
        | some h =>
          rw [e1] at h1; rw [e2] at h2
          cases h1; cases h2
          exact ((Hs7.get kk t h e1 e2).2.2.2.1).same sm
    have s710 : Same H7 H10 := fun x u e => kp _ _ (sm _ _ e) (ne_of_none e ho)
    have tg7 : ∀ x u, H7 x = some u → τ x = τ5 x := fun x u e => tg x u (sm _ _ e) (ne_of_none e ho)
    have T10 : RT τ H10 r := T7.made s710 tg7 w10.un
    have mv10 : Mv 0 τ5 H7 τ H10 := .tags s710 fun x u e => tg7 x u e
    have Hs10 := Hs7.mv mv10
    have kpH10 : Kp r H H10 := (kpH5.trans (Kp.of_same s57)).trans (Kp.of_same s710)
    have eN10 : H10 N = some (.lst (ns.map V.int)) := s710 _ _ (s57 _ _ ens)
    rw [← eo]
    have bl : (begS m ns (hs.map (·.1))).hs.length = hs.length := by unfold begS; simp
    have bb : bss85 (begS m ns (hs.map (·.1))) = hs.map (·.2) := by
      unfold bss85 begS
      rw [List.map_map, List.map_map]
      refine List.map_congr_left fun h hh => ?_
      obtain ⟨kk, lk, ek⟩ := List.getElem_of_mem hh
      have hk : hs[kk]? = some h := by rw [List.getElem?_eq_getElem lk, ek]
      obtain ⟨_, _, _, _, _, a6⟩ := Hs10.get kk (tu[kk]'(by rw [Hs10.len]; exact lk)) h (by simp) hk
      exact (beg85 a6).2
    have I0 : Inv85 (begS m ns (hs.map (·.1))) := by
      refine ⟨nl, fun s' hs' => ?_⟩
      obtain ⟨rw', hrw, rfl⟩ := List.mem_map.mp hs'
      obtain ⟨h, hh, rfl⟩ := List.mem_map.mp hrw
      obtain ⟨kk, lk, ek⟩ := List.getElem_of_mem hh
      have hk : hs[kk]? = some h := by rw [List.getElem?_eq_getElem lk, ek]
      obtain ⟨_, _, _, _, _, a6⟩ := Hs10.get kk (tu[kk]'(by rw [Hs10.len]; exact lk)) h (by simp) hk
      exact (beg85 a6).1
    have n0' : (begS m ns (hs.map (·.1))).ns = ns := rfl
    have mm0 : (begS m ns (hs.map (·.1))).m = m := rfl
    have ts0 : (begS m ns (hs.map (·.1))).ts.length = 0 := rfl
    generalize (begS m ns (hs.map (·.1))) = S0 at w10 bl bb I0 n0' mm0 ts0
    -- all that is told first
    refine ⟨_, rfl, W.o, W.dx, _, rfl, w10.o, rfl, 1, τ, W, S0, rfl, w10, fun c0 H11 fc0 ec0 s11 => ?_⟩
    have w11 := w10.same s11
    refine ⟨_, rfl, _, rfl, D, _, rfl, .inl (SqL.of (s11 _ _ Hs10.ea)), 1, τ, W, S0, (by rw [List.length_map, Hs10.len, bl]; rfl), w11, fun l0 H12 fl0 ll0 s12 => ?_⟩
    refine ⟨(by show 2 ≤ sizeLine; decide), fun B0 hB0 => ?_⟩
    have sB0 := same_new (o := HO.tup [V.ref c0, V.ref l0]) hB0
    have bf := bef_new (τ := τ) fc0 ec0 s11 ll0 s12 hB0
    have s1013 : Same H10 (upd H12 B0 (.tup [V.ref c0, V.ref l0])) := (s11.trans s12).trans sB0
    generalize (upd H12 B0 (.tup [V.ref c0, V.ref l0])) = H13 at bf s1013 ⊢
    have tg13 : ∀ x u, H10 x = some u → tgN τ H10 H13 x = τ x := fun x u e => tgN_old e
    have un13 := tgN_un s1013 w10.un
    have w13 := w10.mv (Mv.tags s1013 tg13) un13
    have T13 := T10.made s1013 tg13 un13
    have Hs13 := Hs10.mv (Mv.tags (i := 0) s1013 tg13)
    have kp13 := kpH10.trans (Kp.of_same s1013)
    have eN13 := s1013 _ _ eN10
    rw [n0', bb] at bf
    generalize tgN τ H10 H13 = τ13 at bf tg13 un13 w13 T13 Hs13
    clear s11 s12 sB0 w11 s710 mv10 Hs10 T10
    -- as due
    refine ⟨_, rfl, _, rfl, _, rfl, D, rfl, ⟨_, SqL.of Hs13.ea⟩, fun L2 hL2 => ?_⟩
    refine comp_list (K := K) (xs := tu.map fun t => V.ref t.1) (fun j σ Hc => ∃ (u v : Option V), σ = [u, v] ∧ Same H13 Hc ∧ Hc L2 = some (.lst ((tu.take j).map fun t => V.ref t.2.2))) ?_ ?_ ?_ ?_
    · exact ⟨none, none, rfl, same_new hL2, by rw [upd_same]; rfl⟩
    · rintro j σ Hc _ ⟨u, v, rfl, sc', _⟩
      exact SqL.of (sc' _ _ Hs13.ea)
    · rintro j x σ Hc hj ⟨u, v, rfl, sc', hLc⟩
      rw [List.getElem?_map] at hj
      obtain ⟨t, et, rfl⟩ : ∃ t, tu[j]? = some t ∧ x = .ref t.1 := by
        cases e : tu[j]? with
        | none => rw [e] at hj; cases hj
        | some t => rw [e] at hj; exact ⟨t, rfl, (Option.some.inj hj).symm⟩
      have jl := (List.getElem?_eq_some_iff.mp et).1
      obtain ⟨a1, _⟩ := Hs13.get j t (hs[j]'(by rw [← Hs13.len]; exact jl)) et (by simp)
      refine ⟨t.1, _, rfl, SqT.of (sc' _ _ a1), rfl, _, _, rfl, _, _, rfl, rfl, ?_⟩
      dsimp only [gName, tAll]
      rw [if_pos rfl]
      refine ⟨_, rfl, _, hLc, (by rw [List.length_map, List.length_take, Hs13.len, sizeLine_eq]; omega), _, _, rfl, sc'.newly hL2, ?_⟩
      rw [upd_same, List.take_succ, et, List.map_append]
      rfl
    rintro σ H14 ⟨u, v, rfl, s14, hL14⟩
    rw [List.length_map, List.take_length] at hL14
    refine ⟨(by show 2 ≤ sizeLine; decide), fun p2 hp2 => ?_⟩
    have sp2 := same_new (o := HO.tup [V.ref N, V.ref L2]) hp2
    have s15 := s14.trans sp2
    have B15 : Bef85 (upd H14 p2 (.tup [V.ref N, V.ref L2])) p2 N L2 ns (hs.map (·.2)) := by
      refine ⟨upd_same, s15 _ _ eN13, tu.map (·.2.2), by rw [List.map_map]; exact sp2 _ _ hL14, by rw [List.length_map, List.length_map, Hs13.len], fun k a' b' h1 h2 => ?_⟩
      rw [List.getElem?_map] at h1 h2
      cases e1 : tu[k]? with
      | none => rw [e1] at h1; cases h1
      | some t =>
        cases e2 : hs[k]? with
        | none => rw [e2] at h2; cases h2
        | some h =>
          rw [e1] at h1; rw [e2] at h2
          cases h1; cases h2
          exact s15 _ _ (Hs13.get k t h e1 e2).2.2.2.2.1
    generalize (upd H14 p2 (.tup [V.ref N, V.ref L2])) = H15 at s15 B15 ⊢
    have bf15 : Bef85 (sub0 τ13 H15) B0 c0 l0 ns (hs.map (·.2)) := bf.same (sub0_mv (Mv.of_same (i := 1) s15))
    have bfH := bf15.same (sub0_same τ13 H15)
    refine ⟨_, _, dat_pair bfH, dat_pair B15, sh_pair _ _, sh_pair _ _, _, rfl, ?_⟩
    rw [if_pos rfl, eqv_sh (sh_pair ns (hs.map (·.2)))]
    refine iteF ?_
    have w15 := w13.same s15
    have T15 := T13.same s15
    have Hs15 := Hs13.same s15
    have kp15 := kp13.trans (Kp.of_same s15)
    rw [← n0', ← bb] at bf15
    rw [← n0', ← bb] at bfH
    -- due
    have fl8 : ∀ S : WkS, Inv85 S → (bss85 S).flatten.length = 8 * S.hs.length := fun S I => by
      unfold bss85
      have : ∀ l : List HandS, (∀ s ∈ l, ∃ a, H85 S.m a s) → (l.map HandS.bs).flatten.length = 8 * l.length := fun l => by
        induction l with
        | nil => intro _; rfl
        | cons s l ih =>
          intro h
          obtain ⟨a, ha⟩ := h s (by simp)
          rw [List.map_cons, List.flatten_cons, List.length_append, ih fun s hs => h s (by simp [hs]), ha.bl, List.length_cons]
          omega
      exact this S.hs I.2
    have bsl : ∀ S : WkS, (bss85 S).length = S.hs.length := fun S => by unfold bss85; simp
    refine ⟨_, rfl, _, _, _, _, rfl, rfl, SqT.of bfH.b, rfl, _, rfl, _, _, _, _, rfl, rfl, SqT.of bfH.b, rfl, c0, l0, S0.ns, bss85 S0, rfl, bfH.c, bfH.l, by rw [bsl]; omega, by rw [bsl]; omega, by rw [fl8 S0 I0, I0.1]; omega, fun du ms H16 fdu edu pm pw s16 => ?_⟩
    have T16 := T15.claim (t := [0]) s16 fdu ⟨_, edu⟩
    have w16 := w15.mv (τ' := tgSet τ13 du [0]) (Mv.claim s16 fdu) (w15.un.claim s16 ⟨_, edu⟩)
    have Hs16 := Hs15.mv (τ' := tgSet τ13 du [0]) (Mv.claim (i := 0) s16 fdu)
    have bf16 : Bef85 (sub0 (tgSet τ13 du [0]) H16) B0 c0 l0 S0.ns (bss85 S0) := bf15.same (sub0_mv (Mv.claim (i := 1) s16 fdu))
    have tdu : tgSet τ13 du [0] du = [0] := tgSet_same
    have kp16 := kp15.trans (Kp.of_same s16)
    generalize tgSet τ13 du [0] = τ16 at T16 w16 Hs16 bf16 tdu
    -- the turns
    refine ⟨_, rfl, sc, _, rfl, .inl (sql_keep hs0 fun o e => kp16 _ _ e (hscr o e)), _, _, rfl, _, _, rfl, rfl, _, rfl, by rw [List.length_map]; omega, by rw [List.length_map]; omega, ?_⟩
    refine for_range (lo := 0) (fun j σ Hc => ∃ (v1 v2 v3 v4 v5 : Option V) (τc : Tg) (B cb lb : Addr) (S : WkS), σ = [some (.ref sc), some (.ref r), some (.int m), some (.ref D), some (.ref N), some (.ref W.o), some (.ref B), some (.ref du), v1, v2, v3, v4, v5] ∧ WAt C_Works C_Hand 1 τc Hc W S ∧ Inv85 S ∧ S.hs.length = hs.length ∧ S.m = m ∧ S.ts.length = j ∧ Bef85 (sub0 τc Hc) B cb lb S.ns (bss85 S) ∧ τc du = [0] ∧ Hc du = some (.lst (ms.map V.int)) ∧ ms.Perm (S.ns ++ (bss85 S).flatten) ∧ RT τc Hc r ∧ Hs85 τc Hc m D tu hs)
      ⟨none, none, none, none, none, τ16, B0, c0, l0, S0, rfl, w16, I0, bl, mm0, ts0, bf16, tdu, edu, pm, T16, Hs16⟩ ?_ ?_
    · rintro j σ Hc hj ⟨v1, v2, v3, v4, v5, τc, B, cb, lb, S, rfl, wc, I, lS, mS, tS, bfc, tduc, educ, pmc, Tc, Hsc⟩
      refine ⟨_, rfl, D, _, rfl, .inl (SqL.of Hsc.ea), _, rfl, by rw [List.length_map, Hsc.len]; omega, by rw [List.length_map, Hsc.len]; omega, fun D3 hD3 => ?_⟩
      rw [List.length_map, Int.toNat_natCast, Hsc.len, ← lS]
      refine comp_valR (fun z => if waitB S.hs z then some (.int (z : Nat)) else none) hD3 (by omega) (fun z H7 G F hz s7 kG kF => ?_) (fun H7 s7 e7 => ?_)
      · have w7 := wc.same s7
        have es : S.hs[z]? = some S.hs[z] := List.getElem?_eq_getElem hz
        have inn : inP ((0 : Int) + z) S.hs.length := ⟨by omega, by omega⟩
        refine ⟨_, rfl, W.o, W.dx, _, rfl, w7.o, rfl, _, rfl, 1, τc, W, S, _, rfl, w7, fun k3 t3 e3 e3' => ?_, fun z => absurd inn z⟩
        obtain rfl : t3 = S.hs[z] := by
          have : k3 = z := by omega
          subst this
          rw [es] at e3'
          exact (Option.some.inj e3').symm
        refine ⟨rfl, _, rfl, ?_⟩
        have eb : waitB S.hs z = decide (S.hs[z].st = "waits") := by unfold waitB; rw [es]
        rw [eb] at kG kF
        refine ite2 (fun q => ?_) (fun q => ?_)
        · have hq : S.hs[z].st = Str.ofString "waits" := V.str.inj (of_decide_eq_true q)
          refine ⟨_, rfl, kF _ H7 (Same.refl _) ?_⟩
          rw [decide_eq_true hq, Int.zero_add]
          rfl
        · refine kG H7 (Same.refl _) ?_
          have hq : ¬ S.hs[z].st = Str.ofString "waits" := fun z => q (decide_eq_true (by rw [z]))
          rw [decide_eq_false hq]
          rfl
      rw [fm_wait] at e7
      have e7 : H7 D3 = some (.lst ((waitL S.hs).map fun k : Nat => V.int k)) := e7
      have e7' : H7 D3 = some (.lst (((waitL S.hs).map fun k : Nat => (k : Int)).map V.int)) := by rw [e7, List.map_map]; rfl
      refine ⟨_, rfl, (by show 0 ≤ sizeLine; decide), fun em hem => ?_⟩
      have sem := same_new (o := HO.lst []) hem
      have eem : (upd H7 em (.lst [])) em = some (.lst (([] : List Int).map V.int)) := upd_same
      have e8 := sem _ _ e7
      have e8' := sem _ _ e7'
      have S8 : Same Hc (upd H7 em (.lst [])) := s7.trans sem
      have fD8 : Hc D3 = none := hD3
      generalize (upd H7 em (.lst [])) = H8 at eem e8 e8' S8 ⊢
      refine ⟨_, _, dat_ints e8', dat_ints eem, shaped_ints _, shaped_ints _, _, rfl, ?_⟩
      rw [if_neg (by decide), eqv_list PyData.int eqv_int]
      refine ite2 (fun _ => fin _) (fun q => ?_)
      have wpos : 0 < (waitL S.hs).length := by
        rcases Nat.eq_zero_or_pos (waitL S.hs).length with z | z
        · exfalso
          apply q
          rw [List.eq_nil_of_length_eq_zero z]
          rfl
        · exact z
      -- which one
      have T8 := Tc.claim (t := [0]) S8 fD8 ⟨_, e8⟩
      have w8 := wc.mv (τ' := tgSet τc D3 [0]) (Mv.claim S8 fD8) (wc.un.claim S8 ⟨_, e8⟩)
      have Hs8 := Hsc.mv (τ' := tgSet τc D3 [0]) (Mv.claim (i := 0) S8 fD8)
      have bf8 : Bef85 (sub0 (tgSet τc D3 [0]) H8) B cb lb S.ns (bss85 S) := bfc.same (sub0_mv (Mv.claim (i := 1) S8 fD8))
      have tD8 : tgSet τc D3 [0] D3 = [0] := tgSet_same
      have tdu8 : tgSet τc D3 [0] du = [0] := by rw [tgSet_ne (ne_of_none educ fD8)]; exact tduc
      have edu8 := S8 _ _ educ
      generalize tgSet τc D3 [0] = τ8 at T8 w8 Hs8 bf8 tD8 tdu8
      have wl : (waitL S.hs).length ≤ 8 := by
        have := List.length_filter_le (waitB S.hs) (List.range S.hs.length)
        unfold waitL
        simp only [List.length_range] at this
        omega
      refine ⟨_, rfl, _, rfl, _, rfl, D3, _, rfl, .inl (SqL.of e8), r, (waitL S.hs).length, by rw [List.length_map]; rfl, T8.R, by omega, by omega, fun z H9 z0 z1 R9 k9 => ?_⟩
      have T9 := T8.draw k9 R9
      have mv9 : Mv 1 τ8 H8 τ8 H9 := T8.kr k9
      have w9 := w8.mv mv9 T9.un
      have Hs9 := Hs8.mv mv9
      have bf9 := bf8.same (sub0_mv mv9)
      have e9 := T8.keep k9 e8 (by rw [tD8]; simp)
      have edu9 := T8.keep k9 edu8 (by rw [tdu8]; simp)
      obtain ⟨z, rfl⟩ := Int.eq_ofNat_of_zero_le z0
      obtain ⟨f, ef⟩ : ∃ f, (waitL S.hs)[z]? = some f := ⟨_, List.getElem?_eq_getElem (by omega)⟩
      obtain ⟨sf, esf, wsf⟩ := waitL_get ef
      refine ⟨_, _, _, _, rfl, rfl, SqL.of e9, atI_nat (v := .int (f : Int)) (by rw [List.getElem?_map, ef]; rfl), ?_⟩
      refine ⟨_, rfl, W.o, W.dx, _, rfl, w9.o, rfl, _, rfl, ?_⟩
      dsimp only [tNil]
      refine turn_go (K := K) (CN := C_NoHand) (CO := C_Over) w9 (by omega) esf wsf (fun rw' t H20 er tr ft ht w20 st20 => ?_)
      obtain ⟨b, c, x, y, rfl, b8, ex, ey, b8', tv, en', eb', I', lh'⟩ := turn85 I esf er tr
      rw [tv] at ht
      have T20 := T9.stp st20
      have bf20 := bf9.same (sub0_stp st20 (by decide))
      have mv20 : Mv 0 τ8 H9 τ8 H20 := Mv.of_stp st20 (by decide) (by decide)
      have Hs20 := Hs9.mv mv20
      have edu20 := st20.keep _ _ edu9 (by rw [tdu8]; simp)
      -- all that is told then
      refine ⟨_, rfl, W.o, W.dx, _, rfl, w20.o, rfl, 1, τ8, W, turnS S f, rfl, w20, fun c1 H21 fc1 ec1 s21 => ?_⟩
      have w21 := w20.same s21
      refine ⟨_, rfl, _, rfl, D, _, rfl, .inl (SqL.of (s21 _ _ Hs20.ea)), 1, τ8, W, turnS S f, (by rw [List.length_map, Hs20.len, lh', lS]; rfl), w21, fun l1 H22 fl1 ll1 s22 => ?_⟩
      refine ⟨(by show 2 ≤ sizeLine; decide), fun A1 hA1 => ?_⟩
      have sA1 := same_new (o := HO.tup [V.ref c1, V.ref l1]) hA1
      have bfA := bef_new (τ := τ8) fc1 ec1 s21 ll1 s22 hA1
      have s2023 : Same H20 (upd H22 A1 (.tup [V.ref c1, V.ref l1])) := (s21.trans s22).trans sA1
      generalize (upd H22 A1 (.tup [V.ref c1, V.ref l1])) = H23 at bfA s2023 ⊢
      have tg23 : ∀ x u, H20 x = some u → tgN τ8 H20 H23 x = τ8 x := fun x u e => tgN_old e
      have un23 := tgN_un s2023 w20.un
      have w23 := w20.mv (Mv.tags s2023 tg23) un23
      have T23 := T20.made s2023 tg23 un23
      have Hs23 := Hs20.mv (Mv.tags (i := 0) s2023 tg23)
      have bf23 := bf20.same (sub0_mv (Mv.tags (i := 1) s2023 tg23))
      have tdu23 : tgN τ8 H20 H23 du = [0] := by rw [tg23 _ _ edu20]; exact tdu8
      have edu23 := s2023 _ _ edu20
      have ht23 := s2023 _ _ ht
      generalize tgN τ8 H20 H23 = τ23 at bfA tg23 un23 w23 T23 Hs23 bf23 tdu23
      have esb : (bss85 S)[f]? = some sf.bs := by unfold bss85; rw [List.getElem?_map, esf]; rfl
      have pm' : ((turnS S f).ns ++ (bss85 (turnS S f)).flatten).Perm (S.ns ++ (bss85 S).flatten) := by rw [en', eb']; exact perm85 ex esb ey
      have bfA' := bfA
      rw [en', eb'] at bfA'
      refine ⟨_, rfl, _, rfl, _, rfl, _, rfl, t, B, cb, lb, A1, c1, l1, S.ns, bss85 S, f, b, c, x, y, sf.bs, rfl, ht23, bf23.same (sub0_same _ _), bfA'.same (sub0_same _ _), ex, esb, ey, b8', by rw [bsl]; omega, fun H24 s24 => ?_⟩
      refine ⟨_, rfl, iteF ?_⟩
      have bfA24 := bfA.same (sub0_mv (Mv.of_same (i := 1) s24))
      have bA := bfA24.same (sub0_same _ _)
      have lh2 : (turnS S f).hs.length = hs.length := by rw [lh', lS]
      refine ⟨_, rfl, _, _, _, _, rfl, rfl, SqT.of bA.b, rfl, _, rfl, _, _, _, _, rfl, rfl, SqT.of bA.b, rfl, c1, l1, (turnS S f).ns, bss85 (turnS S f), rfl, bA.c, bA.l, by rw [bsl]; omega, by rw [bsl]; omega, ?_, fun d2 ms2 H25 fd2 ed2 pm2 pw2 s25 => ?_⟩
      · have m' : (turnS S f).m = m := by rw [turnS_eq esf er]; exact mS
        rw [fl8 _ I', I'.1, m']
        omega
      have eq : ms2 = ms := List.Perm.eq_of_pairwise (le := fun x y : Int => x ≤ y) (fun a b _ _ h1 h2 => Int.le_antisymm h1 h2) pw2 pw (pm2.trans (pm'.trans pmc.symm))
      subst eq
      refine ⟨_, rfl, _, _, dat_ints ed2, dat_ints (s25 _ _ (s24 _ _ edu23)), shaped_ints _, shaped_ints _, _, rfl, ?_⟩
      rw [if_pos rfl, eqv_list PyData.int eqv_int]
      refine ite2 (fun q => absurd q (by simp)) (fun _ => ?_)
      have s26 := s24.trans s25
      have m' : (turnS S f).m = m := by rw [turnS_eq esf er]; exact mS
      exact ⟨_, rfl, _, _, _, _, _, τ23, A1, c1, l1, turnS S f, rfl, w23.same s26, I', lh', m', by rw [turnS_eq esf er]; simp [tS], bfA.same (sub0_mv (Mv.of_same (i := 1) s26)), tdu23, s26 _ _ edu23, pmc.trans pm'.symm, T23.same s26, Hs23.same s26⟩
    · rintro σ Hc _
      exact fin _

end
theorem len0 {us : List Value} (h : us.length = 0) : us = [] := List.eq_nil_of_length_eq_zero h
theorem lenS {us : List Value} {n : Nat} (h : us.length = n + 1) : ∃ a vs, us = a :: vs ∧ vs.length = n := by
  cases us with
  | nil => cases h
  | cons a t => exact ⟨a, t, rfl, Nat.succ.inj h⟩
theorem bi_is_whole (kV doc pm : Value) (an : Option Addr) (cdv ct : Value) (us : List Value) (hl : us.length = (["value"] : List Str).length) : bindArgs (PySem.W.fnOf "is_whole" "is_whole" (defArgs s_is_whole) (defBody s_is_whole) (defScope s_is_whole) .none kV doc pm an cdv ct) ⟨us, []⟩ = pure ((["value"] : List Str).zip us) := by obtain ⟨_, _, rfl, h1⟩ := lenS hl; cases len0 h1; rfl
theorem bi_is_below (kV doc pm : Value) (an : Option Addr) (cdv ct : Value) (us : List Value) (hl : us.length = (["value", "count"] : List Str).length) : bindArgs (PySem.W.fnOf "is_below" "is_below" (defArgs s_is_below) (defBody s_is_below) (defScope s_is_below) .none kV doc pm an cdv ct) ⟨us, []⟩ = pure ((["value", "count"] : List Str).zip us) := by obtain ⟨_, _, rfl, h1⟩ := lenS hl; obtain ⟨_, _, rfl, h2⟩ := lenS h1; cases len0 h2; rfl
theorem bi_Hand_init (kV doc pm : Value) (an : Option Addr) (cdv ct : Value) (us : List Value) (hl : us.length = (["self", "rows"] : List Str).length) : bindArgs (PySem.W.fnOf "__init__" "Hand.__init__" (defArgs s_Hand_init) (defBody s_Hand_init) (defScope s_Hand_init) .none kV doc pm an cdv ct) ⟨us, []⟩ = pure ((["self", "rows"] : List Str).zip us) := by obtain ⟨_, _, rfl, h1⟩ := lenS hl; obtain ⟨_, _, rfl, h2⟩ := lenS h1; cases len0 h2; rfl
theorem bi_cell_of (kV doc pm : Value) (an : Option Addr) (cdv ct : Value) (us : List Value) (hl : us.length = (["row"] : List Str).length) : bindArgs (PySem.W.fnOf "cell_of" "cell_of" (defArgs s_cell_of) (defBody s_cell_of) (defScope s_cell_of) .none kV doc pm an cdv ct) ⟨us, []⟩ = pure ((["row"] : List Str).zip us) := by obtain ⟨_, _, rfl, h1⟩ := lenS hl; cases len0 h1; rfl
theorem bi_Hand_value_of (kV doc pm : Value) (an : Option Addr) (cdv ct : Value) (us : List Value) (hl : us.length = (["self", "part"] : List Str).length) : bindArgs (PySem.W.fnOf "value_of" "Hand.value_of" (defArgs s_Hand_value_of) (defBody s_Hand_value_of) (defScope s_Hand_value_of) .none kV doc pm an cdv ct) ⟨us, []⟩ = pure ((["self", "part"] : List Str).zip us) := by obtain ⟨_, _, rfl, h1⟩ := lenS hl; obtain ⟨_, _, rfl, h2⟩ := lenS h1; cases len0 h2; rfl
theorem bi_Hand_holds (kV doc pm : Value) (an : Option Addr) (cdv ct : Value) (us : List Value) (hl : us.length = (["self", "row"] : List Str).length) : bindArgs (PySem.W.fnOf "holds" "Hand.holds" (defArgs s_Hand_holds) (defBody s_Hand_holds) (defScope s_Hand_holds) .none kV doc pm an cdv ct) ⟨us, []⟩ = pure ((["self", "row"] : List Str).zip us) := by obtain ⟨_, _, rfl, h1⟩ := lenS hl; obtain ⟨_, _, rfl, h2⟩ := lenS h1; cases len0 h2; rfl
theorem bi_Hand_take (kV doc pm : Value) (an : Option Addr) (cdv ct : Value) (us : List Value) (hl : us.length = (["self", "box", "number"] : List Str).length) : bindArgs (PySem.W.fnOf "take" "Hand.take" (defArgs s_Hand_take) (defBody s_Hand_take) (defScope s_Hand_take) .none kV doc pm an cdv ct) ⟨us, []⟩ = pure ((["self", "box", "number"] : List Str).zip us) := by obtain ⟨_, _, rfl, h1⟩ := lenS hl; obtain ⟨_, _, rfl, h2⟩ := lenS h1; obtain ⟨_, _, rfl, h3⟩ := lenS h2; cases len0 h3; rfl
theorem bi_Hand_do (kV doc pm : Value) (an : Option Addr) (cdv ct : Value) (us : List Value) (hl : us.length = (["self", "row"] : List Str).length) : bindArgs (PySem.W.fnOf "do" "Hand.do" (defArgs s_Hand_do) (defBody s_Hand_do) (defScope s_Hand_do) .none kV doc pm an cdv ct) ⟨us, []⟩ = pure ((["self", "row"] : List Str).zip us) := by obtain ⟨_, _, rfl, h1⟩ := lenS hl; obtain ⟨_, _, rfl, h2⟩ := lenS h1; cases len0 h2; rfl
theorem bi_Hand_lead_on (kV doc pm : Value) (an : Option Addr) (cdv ct : Value) (us : List Value) (hl : us.length = (["self"] : List Str).length) : bindArgs (PySem.W.fnOf "lead_on" "Hand.lead_on" (defArgs s_Hand_lead_on) (defBody s_Hand_lead_on) (defScope s_Hand_lead_on) .none kV doc pm an cdv ct) ⟨us, []⟩ = pure ((["self"] : List Str).zip us) := by obtain ⟨_, _, rfl, h1⟩ := lenS hl; cases len0 h1; rfl
theorem bi_check_numbers (kV doc pm : Value) (an : Option Addr) (cdv ct : Value) (us : List Value) (hl : us.length = (["cells", "count"] : List Str).length) : bindArgs (PySem.W.fnOf "check_numbers" "check_numbers" (defArgs s_check_numbers) (defBody s_check_numbers) (defScope s_check_numbers) .none kV doc pm an cdv ct) ⟨us, []⟩ = pure ((["cells", "count"] : List Str).zip us) := by obtain ⟨_, _, rfl, h1⟩ := lenS hl; obtain ⟨_, _, rfl, h2⟩ := lenS h1; cases len0 h2; rfl
theorem bi_Works_touch_by (kV doc pm : Value) (an : Option Addr) (cdv ct : Value) (us : List Value) (hl : us.length = (["self", "one"] : List Str).length) : bindArgs (PySem.W.fnOf "touch_by" "Works.touch_by" (defArgs s_Works_touch_by) (defBody s_Works_touch_by) (defScope s_Works_touch_by) .none kV doc pm an cdv ct) ⟨us, []⟩ = pure ((["self", "one"] : List Str).zip us) := by obtain ⟨_, _, rfl, h1⟩ := lenS hl; obtain ⟨_, _, rfl, h2⟩ := lenS h1; cases len0 h2; rfl
theorem bi_Works_hand_of (kV doc pm : Value) (an : Option Addr) (cdv ct : Value) (us : List Value) (hl : us.length = (["self", "hand"] : List Str).length) : bindArgs (PySem.W.fnOf "hand_of" "Works.hand_of" (defArgs s_Works_hand_of) (defBody s_Works_hand_of) (defScope s_Works_hand_of) .none kV doc pm an cdv ct) ⟨us, []⟩ = pure ((["self", "hand"] : List Str).zip us) := by obtain ⟨_, _, rfl, h1⟩ := lenS hl; obtain ⟨_, _, rfl, h2⟩ := lenS h1; cases len0 h2; rfl
theorem bi_Works_turn (kV doc pm : Value) (an : Option Addr) (cdv ct : Value) (us : List Value) (hl : us.length = (["self", "hand"] : List Str).length) : bindArgs (PySem.W.fnOf "turn" "Works.turn" (defArgs s_Works_turn) (defBody s_Works_turn) (defScope s_Works_turn) .none kV doc pm an cdv ct) ⟨us, []⟩ = pure ((["self", "hand"] : List Str).zip us) := by obtain ⟨_, _, rfl, h1⟩ := lenS hl; obtain ⟨_, _, rfl, h2⟩ := lenS h1; cases len0 h2; rfl
theorem bd0_Works_init {K : PySem.W.Frag} {T : Addr} {tc : Value} {td : Option Addr} {tn : Nat} {tsl : Array (Option Value)} (d : K.lookup T = some ⟨tc, td, .seq #[.none] tn, tsl⟩) {kV doc pm : Value} {an : Option Addr} {cdv ct : Value} : Binds K (PySem.W.fnOf "__init__" "Works.__init__" (defArgs s_Works_init) (defBody s_Works_init) (defScope s_Works_init) (.ref T) kV doc pm an cdv ct) ["self", "program", "cells"] [] := by
  intro s us KX hl
  have hl : us.length = 3 := by simpa using hl
  obtain ⟨_, _, rfl, h1⟩ := lenS hl; obtain ⟨_, _, rfl, h2⟩ := lenS h1; obtain ⟨_, _, rfl, h3⟩ := lenS h2; cases len0 h3
  exact PySem.W.binds_K KX rfl d rfl rfl rfl
theorem bd1_Works_init {K : PySem.W.Frag} {T : Addr} {tc : Value} {td : Option Addr} {tn : Nat} {tsl : Array (Option Value)} (d : K.lookup T = some ⟨tc, td, .seq #[.none] tn, tsl⟩) {kV doc pm : Value} {an : Option Addr} {cdv ct : Value} : Binds K (PySem.W.fnOf "__init__" "Works.__init__" (defArgs s_Works_init) (defBody s_Works_init) (defScope s_Works_init) (.ref T) kV doc pm an cdv ct) ["self", "program", "cells"] [.none] := by
  intro s us KX hl
  have hl : us.length = 2 := by simpa using hl
  obtain ⟨_, _, rfl, h1⟩ := lenS hl; obtain ⟨_, _, rfl, h2⟩ := lenS h1; cases len0 h2
  exact PySem.W.binds_K KX rfl d rfl rfl rfl
theorem bdK_Works_init {K : PySem.W.Frag} {T : Addr} {tc : Value} {td : Option Addr} {tn : Nat} {tsl : Array (Option Value)} (d : K.lookup T = some ⟨tc, td, .seq #[.none] tn, tsl⟩) {kV doc pm : Value} {an : Option Addr} {cdv ct : Value} (s : Shared) (us : List Value) (z : Value) (KX : K.In s.heap) (hl : (us ++ [z]).length = (["self", "program", "cells"] : List Str).length) : BindsTo s (PySem.W.fnOf "__init__" "Works.__init__" (defArgs s_Works_init) (defBody s_Works_init) (defScope s_Works_init) (.ref T) kV doc pm an cdv ct) ⟨us, [("cells", z)]⟩ ((["self", "program", "cells"] : List Str).zip (us ++ [z])) := by
  have hl : us.length = 2 := by simpa using hl
  obtain ⟨_, _, rfl, h1⟩ := lenS hl; obtain ⟨_, _, rfl, h2⟩ := lenS h1; cases len0 h2
  exact PySem.W.binds_K KX rfl d rfl rfl rfl
theorem bi_Works_cells (kV doc pm : Value) (an : Option Addr) (cdv ct : Value) (us : List Value) (hl : us.length = (["self"] : List Str).length) : bindArgs (PySem.W.fnOf "cells" "Works.cells" (defArgs s_Works_cells) (defBody s_Works_cells) (defScope s_Works_cells) .none kV doc pm an cdv ct) ⟨us, []⟩ = pure ((["self"] : List Str).zip us) := by obtain ⟨_, _, rfl, h1⟩ := lenS hl; cases len0 h1; rfl
theorem bi_Works_boxes (kV doc pm : Value) (an : Option Addr) (cdv ct : Value) (us : List Value) (hl : us.length = (["self", "hand"] : List Str).length) : bindArgs (PySem.W.fnOf "boxes" "Works.boxes" (defArgs s_Works_boxes) (defBody s_Works_boxes) (defScope s_Works_boxes) .none kV doc pm an cdv ct) ⟨us, []⟩ = pure ((["self", "hand"] : List Str).zip us) := by obtain ⟨_, _, rfl, h1⟩ := lenS hl; obtain ⟨_, _, rfl, h2⟩ := lenS h1; cases len0 h2; rfl
theorem bi_Works_how (kV doc pm : Value) (an : Option Addr) (cdv ct : Value) (us : List Value) (hl : us.length = (["self", "hand"] : List Str).length) : bindArgs (PySem.W.fnOf "how" "Works.how" (defArgs s_Works_how) (defBody s_Works_how) (defScope s_Works_how) .none kV doc pm an cdv ct) ⟨us, []⟩ = pure ((["self", "hand"] : List Str).zip us) := by obtain ⟨_, _, rfl, h1⟩ := lenS hl; obtain ⟨_, _, rfl, h2⟩ := lenS h1; cases len0 h2; rfl
theorem bi_Lreel (kV doc pm : Value) (an : Option Addr) (cdv ct : Value) (us : List Value) (hl : us.length = (["script"] : List Str).length) : bindArgs (PySem.W.fnOf "_law_reel" "_law_reel" (defArgs s_Lreel) (defBody s_Lreel) (defScope s_Lreel) .none kV doc pm an cdv ct) ⟨us, []⟩ = pure ((["script"] : List Str).zip us) := by obtain ⟨_, _, rfl, h1⟩ := lenS hl; cases len0 h1; rfl
theorem bi_Ldraw (kV doc pm : Value) (an : Option Addr) (cdv ct : Value) (us : List Value) (hl : us.length = (["reel", "many"] : List Str).length) : bindArgs (PySem.W.fnOf "_law_draw" "_law_draw" (defArgs s_Ldraw) (defBody s_Ldraw) (defScope s_Ldraw) .none kV doc pm an cdv ct) ⟨us, []⟩ = pure ((["reel", "many"] : List Str).zip us) := by obtain ⟨_, _, rfl, h1⟩ := lenS hl; obtain ⟨_, _, rfl, h2⟩ := lenS h1; cases len0 h2; rfl
theorem bi_Lrow (kV doc pm : Value) (an : Option Addr) (cdv ct : Value) (us : List Value) (hl : us.length = (["reel", "at", "size", "many"] : List Str).length) : bindArgs (PySem.W.fnOf "_law_row" "_law_row" (defArgs s_Lrow) (defBody s_Lrow) (defScope s_Lrow) .none kV doc pm an cdv ct) ⟨us, []⟩ = pure ((["reel", "at", "size", "many"] : List Str).zip us) := by obtain ⟨_, _, rfl, h1⟩ := lenS hl; obtain ⟨_, _, rfl, h2⟩ := lenS h1; obtain ⟨_, _, rfl, h3⟩ := lenS h2; obtain ⟨_, _, rfl, h4⟩ := lenS h3; cases len0 h4; rfl
theorem bi_Lhand (kV doc pm : Value) (an : Option Addr) (cdv ct : Value) (us : List Value) (hl : us.length = (["reel", "many"] : List Str).length) : bindArgs (PySem.W.fnOf "_law_hand" "_law_hand" (defArgs s_Lhand) (defBody s_Lhand) (defScope s_Lhand) .none kV doc pm an cdv ct) ⟨us, []⟩ = pure ((["reel", "many"] : List Str).zip us) := by obtain ⟨_, _, rfl, h1⟩ := lenS hl; obtain ⟨_, _, rfl, h2⟩ := lenS h1; cases len0 h2; rfl
theorem bi_Lboxes (kV doc pm : Value) (an : Option Addr) (cdv ct : Value) (us : List Value) (hl : us.length = (["one", "many"] : List Str).length) : bindArgs (PySem.W.fnOf "_law_boxes" "_law_boxes" (defArgs s_Lboxes) (defBody s_Lboxes) (defScope s_Lboxes) .none kV doc pm an cdv ct) ⟨us, []⟩ = pure ((["one", "many"] : List Str).zip us) := by obtain ⟨_, _, rfl, h1⟩ := lenS hl; obtain ⟨_, _, rfl, h2⟩ := lenS h1; cases len0 h2; rfl
theorem bi_Lsorted (kV doc pm : Value) (an : Option Addr) (cdv ct : Value) (us : List Value) (hl : us.length = (["numbers", "boxes"] : List Str).length) : bindArgs (PySem.W.fnOf "_law_sorted" "_law_sorted" (defArgs s_Lsorted) (defBody s_Lsorted) (defScope s_Lsorted) .none kV doc pm an cdv ct) ⟨us, []⟩ = pure ((["numbers", "boxes"] : List Str).zip us) := by obtain ⟨_, _, rfl, h1⟩ := lenS hl; obtain ⟨_, _, rfl, h2⟩ := lenS h1; cases len0 h2; rfl
theorem bi_Lright (kV doc pm : Value) (an : Option Addr) (cdv ct : Value) (us : List Value) (hl : us.length = (["told", "before", "after", "k"] : List Str).length) : bindArgs (PySem.W.fnOf "_law_right" "_law_right" (defArgs s_Lright) (defBody s_Lright) (defScope s_Lright) .none kV doc pm an cdv ct) ⟨us, []⟩ = pure ((["told", "before", "after", "k"] : List Str).zip us) := by obtain ⟨_, _, rfl, h1⟩ := lenS hl; obtain ⟨_, _, rfl, h2⟩ := lenS h1; obtain ⟨_, _, rfl, h3⟩ := lenS h2; obtain ⟨_, _, rfl, h4⟩ := lenS h3; cases len0 h4; rfl
theorem all_mk {l : PySem.W.OpenLaw} {w : World} {K : PySem.W.Frag} {h : Heap} {mg : Str → Option Value} {fa f0 f1 f2 f3 f4 f5 f6 f7 f8 f9 f10 f11 f12 f13 f14 f15 f16 f17 f18 f19 f20 f21 f22 f23 f24 C_Hand C_Works C_NoNumber C_NoHand C_Over C_NoteError : Addr} (X : K.In h) (G : h.Ns mainGlobals mg) (hfa : mg "law" = some (.ref fa))
    {od0 an0 od1 an1 od2 an2 od3 an3 od4 an4 od5 an5 od6 an6 od7 an7 od8 an8 od9 an9 od10 an10 od11 an11 od12 an12 od13 an13 od14 an14 od15 an15 od16 an16 od17 an17 od18 an18 od19 an19 od20 an20 od21 an21 od22 an22 od23 an23 od24 an24 : Option Addr} {sl0 sl1 sl2 sl3 sl4 sl5 sl6 sl7 sl8 sl9 sl10 sl11 sl12 sl13 sl14 sl15 sl16 sl17 sl18 sl19 sl20 sl21 sl22 sl23 sl24 : Array (Option Value)} {oc0 kV0 dc0 pm0 cd0 ct0 oc1 kV1 dc1 pm1 cd1 ct1 oc2 kV2 dc2 pm2 cd2 ct2 oc3 kV3 dc3 pm3 cd3 ct3 oc4 kV4 dc4 pm4 cd4 ct4 oc5 kV5 dc5 pm5 cd5 ct5 oc6 kV6 dc6 pm6 cd6 ct6 oc7 kV7 dc7 pm7 cd7 ct7 oc8 kV8 dc8 pm8 cd8 ct8 oc9 kV9 dc9 pm9 cd9 ct9 oc10 kV10 dc10 pm10 cd10 ct10 oc11 kV11 dc11 pm11 cd11 ct11 oc12 kV12 dc12 pm12 cd12 ct12 oc13 kV13 dc13 pm13 cd13 ct13 oc14 kV14 dc14 pm14 cd14 ct14 oc15 kV15 dc15 pm15 cd15 ct15 oc16 kV16 dc16 pm16 cd16 ct16 oc17 kV17 dc17 pm17 cd17 ct17 oc18 kV18 dc18 pm18 cd18 ct18 oc19 kV19 dc19 pm19 cd19 ct19 oc20 kV20 dc20 pm20 cd20 ct20 oc21 kV21 dc21 pm21 cd21 ct21 oc22 kV22 dc22 pm22 cd22 ct22 oc23 kV23 dc23 pm23 cd23 ct23 oc24 kV24 dc24 pm24 cd24 ct24 : Value}
    (a0 : PySem.W.nsIn K mainGlobals "is_whole" = some (some (.ref f0))) (l0 : K.lookup f0 = some ⟨oc0, od0, .func (PySem.W.fnOf "is_whole" "is_whole" (defArgs s_is_whole) (defBody s_is_whole) (defScope s_is_whole) .none kV0 dc0 pm0 an0 cd0 ct0), sl0⟩) (c0 : PySem.W.codeIn K cd0 "is_whole" = true) (k0 : PySem.W.keepIn K (.ref f0) = true)
    (a1 : PySem.W.nsIn K mainGlobals "is_below" = some (some (.ref f1))) (l1 : K.lookup f1 = some ⟨oc1, od1, .func (PySem.W.fnOf "is_below" "is_below" (defArgs s_is_below) (defBody s_is_below) (defScope s_is_below) .none kV1 dc1 pm1 an1 cd1 ct1), sl1⟩) (c1 : PySem.W.codeIn K cd1 "is_below" = true) (k1 : PySem.W.keepIn K (.ref f1) = true)
    (a2 : PySem.W.findIn K (.ref C_Hand) "__init__" = some (some (.ref f2))) (l2 : K.lookup f2 = some ⟨oc2, od2, .func (PySem.W.fnOf "__init__" "Hand.__init__" (defArgs s_Hand_init) (defBody s_Hand_init) (defScope s_Hand_init) .none kV2 dc2 pm2 an2 cd2 ct2), sl2⟩) (c2 : PySem.W.codeIn K cd2 "Hand.__init__" = true) (k2 : PySem.W.keepIn K (.ref f2) = true) (n2 : PySem.W.isFn K (.ref f2) = true)
    (a3 : PySem.W.nsIn K mainGlobals "cell_of" = some (some (.ref f3))) (l3 : K.lookup f3 = some ⟨oc3, od3, .func (PySem.W.fnOf "cell_of" "cell_of" (defArgs s_cell_of) (defBody s_cell_of) (defScope s_cell_of) .none kV3 dc3 pm3 an3 cd3 ct3), sl3⟩) (c3 : PySem.W.codeIn K cd3 "cell_of" = true) (k3 : PySem.W.keepIn K (.ref f3) = true)
    (a4 : PySem.W.findIn K (.ref C_Hand) "value_of" = some (some (.ref f4))) (l4 : K.lookup f4 = some ⟨oc4, od4, .func (PySem.W.fnOf "value_of" "Hand.value_of" (defArgs s_Hand_value_of) (defBody s_Hand_value_of) (defScope s_Hand_value_of) .none kV4 dc4 pm4 an4 cd4 ct4), sl4⟩) (c4 : PySem.W.codeIn K cd4 "Hand.value_of" = true) (k4 : PySem.W.keepIn K (.ref f4) = true) (n4 : PySem.W.isFn K (.ref f4) = true)
    (a5 : PySem.W.findIn K (.ref C_Hand) "holds" = some (some (.ref f5))) (l5 : K.lookup f5 = some ⟨oc5, od5, .func (PySem.W.fnOf "holds" "Hand.holds" (defArgs s_Hand_holds) (defBody s_Hand_holds) (defScope s_Hand_holds) .none kV5 dc5 pm5 an5 cd5 ct5), sl5⟩) (c5 : PySem.W.codeIn K cd5 "Hand.holds" = true) (k5 : PySem.W.keepIn K (.ref f5) = true) (n5 : PySem.W.isFn K (.ref f5) = true)
    (a6 : PySem.W.findIn K (.ref C_Hand) "take" = some (some (.ref f6))) (l6 : K.lookup f6 = some ⟨oc6, od6, .func (PySem.W.fnOf "take" "Hand.take" (defArgs s_Hand_take) (defBody s_Hand_take) (defScope s_Hand_take) .none kV6 dc6 pm6 an6 cd6 ct6), sl6⟩) (c6 : PySem.W.codeIn K cd6 "Hand.take" = true) (k6 : PySem.W.keepIn K (.ref f6) = true) (n6 : PySem.W.isFn K (.ref f6) = true)
    (a7 : PySem.W.findIn K (.ref C_Hand) "do" = some (some (.ref f7))) (l7 : K.lookup f7 = some ⟨oc7, od7, .func (PySem.W.fnOf "do" "Hand.do" (defArgs s_Hand_do) (defBody s_Hand_do) (defScope s_Hand_do) .none kV7 dc7 pm7 an7 cd7 ct7), sl7⟩) (c7 : PySem.W.codeIn K cd7 "Hand.do" = true) (k7 : PySem.W.keepIn K (.ref f7) = true) (n7 : PySem.W.isFn K (.ref f7) = true)
    (a8 : PySem.W.findIn K (.ref C_Hand) "lead_on" = some (some (.ref f8))) (l8 : K.lookup f8 = some ⟨oc8, od8, .func (PySem.W.fnOf "lead_on" "Hand.lead_on" (defArgs s_Hand_lead_on) (defBody s_Hand_lead_on) (defScope s_Hand_lead_on) .none kV8 dc8 pm8 an8 cd8 ct8), sl8⟩) (c8 : PySem.W.codeIn K cd8 "Hand.lead_on" = true) (k8 : PySem.W.keepIn K (.ref f8) = true) (n8 : PySem.W.isFn K (.ref f8) = true)
    (a9 : PySem.W.nsIn K mainGlobals "check_numbers" = some (some (.ref f9))) (l9 : K.lookup f9 = some ⟨oc9, od9, .func (PySem.W.fnOf "check_numbers" "check_numbers" (defArgs s_check_numbers) (defBody s_check_numbers) (defScope s_check_numbers) .none kV9 dc9 pm9 an9 cd9 ct9), sl9⟩) (c9 : PySem.W.codeIn K cd9 "check_numbers" = true) (k9 : PySem.W.keepIn K (.ref f9) = true)
    (a10 : PySem.W.findIn K (.ref C_Works) "touch_by" = some (some (.ref f10))) (l10 : K.lookup f10 = some ⟨oc10, od10, .func (PySem.W.fnOf "touch_by" "Works.touch_by" (defArgs s_Works_touch_by) (defBody s_Works_touch_by) (defScope s_Works_touch_by) .none kV10 dc10 pm10 an10 cd10 ct10), sl10⟩) (c10 : PySem.W.codeIn K cd10 "Works.touch_by" = true) (k10 : PySem.W.keepIn K (.ref f10) = true) (n10 : PySem.W.isFn K (.ref f10) = true)
    (a11 : PySem.W.findIn K (.ref C_Works) "hand_of" = some (some (.ref f11))) (l11 : K.lookup f11 = some ⟨oc11, od11, .func (PySem.W.fnOf "hand_of" "Works.hand_of" (defArgs s_Works_hand_of) (defBody s_Works_hand_of) (defScope s_Works_hand_of) .none kV11 dc11 pm11 an11 cd11 ct11), sl11⟩) (c11 : PySem.W.codeIn K cd11 "Works.hand_of" = true) (k11 : PySem.W.keepIn K (.ref f11) = true) (n11 : PySem.W.isFn K (.ref f11) = true)
    (a12 : PySem.W.findIn K (.ref C_Works) "turn" = some (some (.ref f12))) (l12 : K.lookup f12 = some ⟨oc12, od12, .func (PySem.W.fnOf "turn" "Works.turn" (defArgs s_Works_turn) (defBody s_Works_turn) (defScope s_Works_turn) .none kV12 dc12 pm12 an12 cd12 ct12), sl12⟩) (c12 : PySem.W.codeIn K cd12 "Works.turn" = true) (k12 : PySem.W.keepIn K (.ref f12) = true) (n12 : PySem.W.isFn K (.ref f12) = true)
    {T13 : Addr} {tc13 : Value} {td13 : Option Addr} {tn13 : Nat} {tsl13 : Array (Option Value)} (a13 : PySem.W.findIn K (.ref C_Works) "__init__" = some (some (.ref f13))) (l13 : K.lookup f13 = some ⟨oc13, od13, .func (PySem.W.fnOf "__init__" "Works.__init__" (defArgs s_Works_init) (defBody s_Works_init) (defScope s_Works_init) (.ref T13) kV13 dc13 pm13 an13 cd13 ct13), sl13⟩) (c13 : PySem.W.codeIn K cd13 "Works.__init__" = true) (k13 : PySem.W.keepIn K (.ref f13) = true) (n13 : PySem.W.isFn K (.ref f13) = true) (d13 : K.lookup T13 = some ⟨tc13, td13, .seq #[.none] tn13, tsl13⟩)
    (a14 : PySem.W.findIn K (.ref C_Works) "cells" = some (some (.ref f14))) (l14 : K.lookup f14 = some ⟨oc14, od14, .func (PySem.W.fnOf "cells" "Works.cells" (defArgs s_Works_cells) (defBody s_Works_cells) (defScope s_Works_cells) .none kV14 dc14 pm14 an14 cd14 ct14), sl14⟩) (c14 : PySem.W.codeIn K cd14 "Works.cells" = true) (k14 : PySem.W.keepIn K (.ref f14) = true) (n14 : PySem.W.isFn K (.ref f14) = true)
    (a15 : PySem.W.findIn K (.ref C_Works) "boxes" = some (some (.ref f15))) (l15 : K.lookup f15 = some ⟨oc15, od15, .func (PySem.W.fnOf "boxes" "Works.boxes" (defArgs s_Works_boxes) (defBody s_Works_boxes) (defScope s_Works_boxes) .none kV15 dc15 pm15 an15 cd15 ct15), sl15⟩) (c15 : PySem.W.codeIn K cd15 "Works.boxes" = true) (k15 : PySem.W.keepIn K (.ref f15) = true) (n15 : PySem.W.isFn K (.ref f15) = true)
    (a16 : PySem.W.findIn K (.ref C_Works) "how" = some (some (.ref f16))) (l16 : K.lookup f16 = some ⟨oc16, od16, .func (PySem.W.fnOf "how" "Works.how" (defArgs s_Works_how) (defBody s_Works_how) (defScope s_Works_how) .none kV16 dc16 pm16 an16 cd16 ct16), sl16⟩) (c16 : PySem.W.codeIn K cd16 "Works.how" = true) (k16 : PySem.W.keepIn K (.ref f16) = true) (n16 : PySem.W.isFn K (.ref f16) = true)
    (a17 : PySem.W.nsIn K mainGlobals "_law_reel" = some (some (.ref f17))) (l17 : K.lookup f17 = some ⟨oc17, od17, .func (PySem.W.fnOf "_law_reel" "_law_reel" (defArgs s_Lreel) (defBody s_Lreel) (defScope s_Lreel) .none kV17 dc17 pm17 an17 cd17 ct17), sl17⟩) (c17 : PySem.W.codeIn K cd17 "_law_reel" = true) (k17 : PySem.W.keepIn K (.ref f17) = true)
    (a18 : PySem.W.nsIn K mainGlobals "_law_draw" = some (some (.ref f18))) (l18 : K.lookup f18 = some ⟨oc18, od18, .func (PySem.W.fnOf "_law_draw" "_law_draw" (defArgs s_Ldraw) (defBody s_Ldraw) (defScope s_Ldraw) .none kV18 dc18 pm18 an18 cd18 ct18), sl18⟩) (c18 : PySem.W.codeIn K cd18 "_law_draw" = true) (k18 : PySem.W.keepIn K (.ref f18) = true)
    (a19 : PySem.W.nsIn K mainGlobals "_law_row" = some (some (.ref f19))) (l19 : K.lookup f19 = some ⟨oc19, od19, .func (PySem.W.fnOf "_law_row" "_law_row" (defArgs s_Lrow) (defBody s_Lrow) (defScope s_Lrow) .none kV19 dc19 pm19 an19 cd19 ct19), sl19⟩) (c19 : PySem.W.codeIn K cd19 "_law_row" = true) (k19 : PySem.W.keepIn K (.ref f19) = true)
    (a20 : PySem.W.nsIn K mainGlobals "_law_hand" = some (some (.ref f20))) (l20 : K.lookup f20 = some ⟨oc20, od20, .func (PySem.W.fnOf "_law_hand" "_law_hand" (defArgs s_Lhand) (defBody s_Lhand) (defScope s_Lhand) .none kV20 dc20 pm20 an20 cd20 ct20), sl20⟩) (c20 : PySem.W.codeIn K cd20 "_law_hand" = true) (k20 : PySem.W.keepIn K (.ref f20) = true)
    (a21 : PySem.W.nsIn K mainGlobals "_law_boxes" = some (some (.ref f21))) (l21 : K.lookup f21 = some ⟨oc21, od21, .func (PySem.W.fnOf "_law_boxes" "_law_boxes" (defArgs s_Lboxes) (defBody s_Lboxes) (defScope s_Lboxes) .none kV21 dc21 pm21 an21 cd21 ct21), sl21⟩) (c21 : PySem.W.codeIn K cd21 "_law_boxes" = true) (k21 : PySem.W.keepIn K (.ref f21) = true)
    (a22 : PySem.W.nsIn K mainGlobals "_law_sorted" = some (some (.ref f22))) (l22 : K.lookup f22 = some ⟨oc22, od22, .func (PySem.W.fnOf "_law_sorted" "_law_sorted" (defArgs s_Lsorted) (defBody s_Lsorted) (defScope s_Lsorted) .none kV22 dc22 pm22 an22 cd22 ct22), sl22⟩) (c22 : PySem.W.codeIn K cd22 "_law_sorted" = true) (k22 : PySem.W.keepIn K (.ref f22) = true)
    (a23 : PySem.W.nsIn K mainGlobals "_law_right" = some (some (.ref f23))) (l23 : K.lookup f23 = some ⟨oc23, od23, .func (PySem.W.fnOf "_law_right" "_law_right" (defArgs s_Lright) (defBody s_Lright) (defScope s_Lright) .none kV23 dc23 pm23 an23 cd23 ct23), sl23⟩) (c23 : PySem.W.codeIn K cd23 "_law_right" = true) (k23 : PySem.W.keepIn K (.ref f23) = true)
    (a24 : PySem.W.nsIn K mainGlobals "law" = some (some (.ref f24))) (l24 : K.lookup f24 = some ⟨oc24, od24, .func (PySem.W.fnOf "law" "law" (defArgs s_law) (defBody s_law) (defScope s_law) .none kV24 dc24 pm24 an24 cd24 ct24), sl24⟩) (c24 : PySem.W.codeIn K cd24 "law" = true) (k24 : PySem.W.keepIn K (.ref f24) = true)
    (za_Hand : PySem.W.nsIn K mainGlobals "Hand" = some (some (.ref C_Hand)))
    (zpg_Hand : PySem.W.plainGet K C_Hand Str.empty = true)
    (zhd_Hand : PySem.W.hasDictIn K C_Hand = true)
    (zpo_Hand : PySem.W.plainOver K C_Hand = true)
    (zsa_Hand : PySem.W.findIn K (.ref C_Hand) "__setattr__" = some (some (.builtin "object.__setattr__")))
    (zmk_Hand : PySem.W.makesIn K C_Hand = true)
    (zkp_Hand : PySem.W.keepIn K (.ref C_Hand) = true)
    (zn_Hand_rows : PySem.W.findIn K (.ref C_Hand) "rows" = some none)
    (zn_Hand_at : PySem.W.findIn K (.ref C_Hand) "at" = some none)
    (zn_Hand_in_boxes : PySem.W.findIn K (.ref C_Hand) "in_boxes" = some none)
    (zn_Hand_sayings : PySem.W.findIn K (.ref C_Hand) "sayings" = some none)
    (zn_Hand_state : PySem.W.findIn K (.ref C_Hand) "state" = some none)
    (za_Works : PySem.W.nsIn K mainGlobals "Works" = some (some (.ref C_Works)))
    (zpg_Works : PySem.W.plainGet K C_Works Str.empty = true)
    (zhd_Works : PySem.W.hasDictIn K C_Works = true)
    (zpo_Works : PySem.W.plainOver K C_Works = true)
    (zsa_Works : PySem.W.findIn K (.ref C_Works) "__setattr__" = some (some (.builtin "object.__setattr__")))
    (zmk_Works : PySem.W.makesIn K C_Works = true)
    (zkp_Works : PySem.W.keepIn K (.ref C_Works) = true)
    (zn_Works_program : PySem.W.findIn K (.ref C_Works) "program" = some none)
    (zn_Works_numbers : PySem.W.findIn K (.ref C_Works) "numbers" = some none)
    (zn_Works_hands : PySem.W.findIn K (.ref C_Works) "hands" = some none)
    (zn_Works_turns : PySem.W.findIn K (.ref C_Works) "turns" = some none)
    (xa_NoNumber : PySem.W.nsIn K mainGlobals "NoNumber" = some (some (.ref C_NoNumber)))
    (xcl_NoNumber : (PySem.W.clsIn K C_NoNumber).isSome = true)
    (xty_NoNumber : PySem.W.typeIn K (.ref C_NoNumber) = some (.type "type"))
    (xbs_NoNumber : PySem.W.subIn K (.ref C_NoNumber) (.type "BaseException") = some true)
    (xa_NoHand : PySem.W.nsIn K mainGlobals "NoHand" = some (some (.ref C_NoHand)))
    (xcl_NoHand : (PySem.W.clsIn K C_NoHand).isSome = true)
    (xty_NoHand : PySem.W.typeIn K (.ref C_NoHand) = some (.type "type"))
    (xbs_NoHand : PySem.W.subIn K (.ref C_NoHand) (.type "BaseException") = some true)
    (xa_Over : PySem.W.nsIn K mainGlobals "Over" = some (some (.ref C_Over)))
    (xcl_Over : (PySem.W.clsIn K C_Over).isSome = true)
    (xty_Over : PySem.W.typeIn K (.ref C_Over) = some (.type "type"))
    (xbs_Over : PySem.W.subIn K (.ref C_Over) (.type "BaseException") = some true)
    (xa_NoteError : PySem.W.nsIn K mainGlobals "NoteError" = some (some (.ref C_NoteError)))
    (xcl_NoteError : (PySem.W.clsIn K C_NoteError).isSome = true)
    (xty_NoteError : PySem.W.typeIn K (.ref C_NoteError) = some (.type "type"))
    (xbs_NoteError : PySem.W.subIn K (.ref C_NoteError) (.type "BaseException") = some true)
    (xne_NoHand_NoNumber : (Value.ref C_NoHand == Value.ref C_NoNumber) = false)
    (xsb_NoHand_NoNumber : PySem.W.subIn K (.ref C_NoHand) (.ref C_NoNumber) = some false)
    (xne_Over_NoNumber : (Value.ref C_Over == Value.ref C_NoNumber) = false)
    (xsb_Over_NoNumber : PySem.W.subIn K (.ref C_Over) (.ref C_NoNumber) = some false)
    (xne_NoNumber_NoHand : (Value.ref C_NoNumber == Value.ref C_NoHand) = false)
    (xsb_NoNumber_NoHand : PySem.W.subIn K (.ref C_NoNumber) (.ref C_NoHand) = some false)
    (xne_Over_NoHand : (Value.ref C_Over == Value.ref C_NoHand) = false)
    (xsb_Over_NoHand : PySem.W.subIn K (.ref C_Over) (.ref C_NoHand) = some false)
    (xne_NoNumber_Over : (Value.ref C_NoNumber == Value.ref C_Over) = false)
    (xsb_NoNumber_Over : PySem.W.subIn K (.ref C_NoNumber) (.ref C_Over) = some false)
    (xne_NoHand_Over : (Value.ref C_NoHand == Value.ref C_Over) = false)
    (xsb_NoHand_Over : PySem.W.subIn K (.ref C_NoHand) (.ref C_Over) = some false)
    (xne_NoNumber_NoteError : (Value.ref C_NoNumber == Value.ref C_NoteError) = false)
    (xsb_NoNumber_NoteError : PySem.W.subIn K (.ref C_NoNumber) (.ref C_NoteError) = some true)
    (xne_NoHand_NoteError : (Value.ref C_NoHand == Value.ref C_NoteError) = false)
    (xsb_NoHand_NoteError : PySem.W.subIn K (.ref C_NoHand) (.ref C_NoteError) = some true)
    (xne_Over_NoteError : (Value.ref C_Over == Value.ref C_NoteError) = false)
    (xsb_Over_NoteError : PySem.W.subIn K (.ref C_Over) (.ref C_NoteError) = some true)
    (xcg : PySem.W.specialIn K (.builtin "object.__class__") "__get__" = some (some (.builtin "getset_descriptor.__get__")))
    (xct : PySem.W.takesIn K (.builtin "object.__class__") = some true)
    (xga_NoNumber : PySem.W.findIn K (.ref C_NoNumber) "__getattribute__" = some (some (.builtin "BaseException.__getattribute__")))
    (xgk_NoNumber : PySem.W.findIn K (.ref C_NoNumber) "__getattr__" = some none)
    (xmB_NoNumber : PySem.W.mroIn K C_NoNumber (.type "BaseException") = some true)
    (xca_NoNumber : PySem.W.findIn K (.ref C_NoNumber) "__class__" = some (some (.builtin "object.__class__")))
    (xmo_NoNumber : PySem.W.mroIn K C_NoNumber (.type "object") = some true)
    (xex_NoNumber : PySem.W.excIn K C_NoNumber [.type "ValueError", .type "Exception", .type "BaseException", .type "object"] "ValueError.__new__" = true)
    (xve_NoNumber : PySem.W.subIn K (.ref C_NoNumber) (.type "ValueError") = some true)
    (xga_NoHand : PySem.W.findIn K (.ref C_NoHand) "__getattribute__" = some (some (.builtin "BaseException.__getattribute__")))
    (xgk_NoHand : PySem.W.findIn K (.ref C_NoHand) "__getattr__" = some none)
    (xmB_NoHand : PySem.W.mroIn K C_NoHand (.type "BaseException") = some true)
    (xca_NoHand : PySem.W.findIn K (.ref C_NoHand) "__class__" = some (some (.builtin "object.__class__")))
    (xmo_NoHand : PySem.W.mroIn K C_NoHand (.type "object") = some true)
    (xex_NoHand : PySem.W.excIn K C_NoHand [.type "ValueError", .type "Exception", .type "BaseException", .type "object"] "ValueError.__new__" = true)
    (xve_NoHand : PySem.W.subIn K (.ref C_NoHand) (.type "ValueError") = some true)
    (xga_Over : PySem.W.findIn K (.ref C_Over) "__getattribute__" = some (some (.builtin "BaseException.__getattribute__")))
    (xgk_Over : PySem.W.findIn K (.ref C_Over) "__getattr__" = some none)
    (xmB_Over : PySem.W.mroIn K C_Over (.type "BaseException") = some true)
    (xca_Over : PySem.W.findIn K (.ref C_Over) "__class__" = some (some (.builtin "object.__class__")))
    (xmo_Over : PySem.W.mroIn K C_Over (.type "object") = some true)
    (xex_Over : PySem.W.excIn K C_Over [.type "ValueError", .type "Exception", .type "BaseException", .type "object"] "ValueError.__new__" = true)
    (xve_Over : PySem.W.subIn K (.ref C_Over) (.type "ValueError") = some true)
    {gt_BOXES : Tok} (g_BOXES : PySem.W.nsIn K mainGlobals "BOXES" = some (some (.str "abcdefgh" gt_BOXES)))
    {gt_ROUND : Tok} (g_ROUND : PySem.W.nsIn K mainGlobals "ROUND" = some (some (.int 1000 gt_ROUND)))
    {gt_MOST_UNTOUCHING : Tok} (g_MOST_UNTOUCHING : PySem.W.nsIn K mainGlobals "MOST_UNTOUCHING" = some (some (.int 60 gt_MOST_UNTOUCHING)))
    (z_all : PySem.W.nsIn K mainGlobals "all" = some none) (z_bool : PySem.W.nsIn K mainGlobals "bool" = some none) (z_int : PySem.W.nsIn K mainGlobals "int" = some none) (z_isinstance : PySem.W.nsIn K mainGlobals "isinstance" = some none) (z_len : PySem.W.nsIn K mainGlobals "len" = some none) (z_list : PySem.W.nsIn K mainGlobals "list" = some none) (z_max : PySem.W.nsIn K mainGlobals "max" = some none) (z_min : PySem.W.nsIn K mainGlobals "min" = some none) (z_range : PySem.W.nsIn K mainGlobals "range" = some none) (z_sorted : PySem.W.nsIn K mainGlobals "sorted" = some none) (z_str : PySem.W.nsIn K mainGlobals "str" = some none) (z_sum : PySem.W.nsIn K mainGlobals "sum" = some none) (z_tuple : PySem.W.nsIn K mainGlobals "tuple" = some none) (z_zip : PySem.W.nsIn K mainGlobals "zip" = some none) :
    ∃ fd : FuncData, (∀ (s : Shared) (v : Value), BindsTo s fd ⟨[v], []⟩ [("script", v)]) ∧ ∀ base : Heap, K.In base → base.Ns mainGlobals mg → FnOk l.prog w K mg base CX0 9 fa fd ["script"] (spLaw K) := by
  have e := hfa.symm.trans (PySem.W.mg_of X G a24)
  cases e
  have Bt : Blt mg := ⟨PySem.W.mg_none_of X G z_all, PySem.W.mg_none_of X G z_bool, PySem.W.mg_none_of X G z_int, PySem.W.mg_none_of X G z_isinstance, PySem.W.mg_none_of X G z_len, PySem.W.mg_none_of X G z_list, PySem.W.mg_none_of X G z_max, PySem.W.mg_none_of X G z_min, PySem.W.mg_none_of X G z_range, PySem.W.mg_none_of X G z_sorted, PySem.W.mg_none_of X G z_str, PySem.W.mg_none_of X G z_sum, PySem.W.mg_none_of X G z_tuple, PySem.W.mg_none_of X G z_zip⟩
  have Z_Hand : Cl_Hand K C_Hand := ⟨⟨zpg_Hand, zhd_Hand, zpo_Hand, zsa_Hand⟩, zn_Hand_rows, zn_Hand_at, zn_Hand_in_boxes, zn_Hand_sayings, zn_Hand_state⟩
  have Z_Works : Cl_Works K C_Works := ⟨⟨zpg_Works, zhd_Works, zpo_Works, zsa_Works⟩, zn_Works_program, zn_Works_numbers, zn_Works_hands, zn_Works_turns⟩
  have G_BOXES : Gv mg "BOXES" (.str "abcdefgh") := ⟨_, PySem.W.mg_of X G g_BOXES, ⟨_, rfl⟩⟩
  have G_ROUND : Gv mg "ROUND" (.int 1000) := ⟨_, PySem.W.mg_of X G g_ROUND, ⟨_, rfl⟩⟩
  have G_MOST_UNTOUCHING : Gv mg "MOST_UNTOUCHING" (.int 60) := ⟨_, PySem.W.mg_of X G g_MOST_UNTOUCHING, ⟨_, rfl⟩⟩
  have X_NoNumber : Xr K mg C_NoNumber "NoNumber" := ⟨PySem.W.mg_of X G xa_NoNumber, ⟨xcl_NoNumber, xty_NoNumber, xbs_NoNumber⟩, ⟨xga_NoNumber, xgk_NoNumber, xmB_NoNumber, xcl_NoNumber, xca_NoNumber, xcg, xct, xmo_NoNumber⟩, xex_NoNumber, xve_NoNumber⟩
  have X_NoHand : Xr K mg C_NoHand "NoHand" := ⟨PySem.W.mg_of X G xa_NoHand, ⟨xcl_NoHand, xty_NoHand, xbs_NoHand⟩, ⟨xga_NoHand, xgk_NoHand, xmB_NoHand, xcl_NoHand, xca_NoHand, xcg, xct, xmo_NoHand⟩, xex_NoHand, xve_NoHand⟩
  have X_Over : Xr K mg C_Over "Over" := ⟨PySem.W.mg_of X G xa_Over, ⟨xcl_Over, xty_Over, xbs_Over⟩, ⟨xga_Over, xgk_Over, xmB_Over, xcl_Over, xca_Over, xcg, xct, xmo_Over⟩, xex_Over, xve_Over⟩
  have O_NoteError : Xo K mg C_NoNumber C_NoteError "NoteError" true := ⟨PySem.W.mg_of X G xa_NoteError, ⟨xcl_NoteError, xty_NoteError, xbs_NoteError⟩, ⟨xne_NoNumber_NoteError, xsb_NoNumber_NoteError⟩⟩
  have Q_NoNumber_NoHand : XPair K C_NoNumber C_NoHand false := ⟨xne_NoNumber_NoHand, xsb_NoNumber_NoHand⟩
  have Q_NoNumber_Over : XPair K C_NoNumber C_Over false := ⟨xne_NoNumber_Over, xsb_NoNumber_Over⟩
  have Q_NoHand_NoNumber : XPair K C_NoHand C_NoNumber false := ⟨xne_NoHand_NoNumber, xsb_NoHand_NoNumber⟩
  have Q_NoHand_Over : XPair K C_NoHand C_Over false := ⟨xne_NoHand_Over, xsb_NoHand_Over⟩
  have Q_NoHand_NoteError : XPair K C_NoHand C_NoteError true := ⟨xne_NoHand_NoteError, xsb_NoHand_NoteError⟩
  have Q_Over_NoNumber : XPair K C_Over C_NoNumber false := ⟨xne_Over_NoNumber, xsb_Over_NoNumber⟩
  have Q_Over_NoHand : XPair K C_Over C_NoHand false := ⟨xne_Over_NoHand, xsb_Over_NoHand⟩
  have Q_Over_NoteError : XPair K C_Over C_NoteError true := ⟨xne_Over_NoteError, xsb_Over_NoteError⟩
  have F0 := fun_mk (st := s_is_whole) l0 c0 k0
  have F1 := fun_mk (st := s_is_below) l1 c1 k1
  have F2 := fun_mk (st := s_Hand_init) l2 c2 k2
  have F3 := fun_mk (st := s_cell_of) l3 c3 k3
  have F4 := fun_mk (st := s_Hand_value_of) l4 c4 k4
  have F5 := fun_mk (st := s_Hand_holds) l5 c5 k5
  have F6 := fun_mk (st := s_Hand_take) l6 c6 k6
  have F7 := fun_mk (st := s_Hand_do) l7 c7 k7
  have F8 := fun_mk (st := s_Hand_lead_on) l8 c8 k8
  have F9 := fun_mk (st := s_check_numbers) l9 c9 k9
  have F10 := fun_mk (st := s_Works_touch_by) l10 c10 k10
  have F11 := fun_mk (st := s_Works_hand_of) l11 c11 k11
  have F12 := fun_mk (st := s_Works_turn) l12 c12 k12
  have F13 : FunD K "__init__" "Works.__init__" s_Works_init [.none] f13 _ := ⟨⟨_, _, _, _, _, _, _, _, _, _, _, _, _, _, rfl, l13, c13, d13⟩, k13⟩
  have F14 := fun_mk (st := s_Works_cells) l14 c14 k14
  have F15 := fun_mk (st := s_Works_boxes) l15 c15 k15
  have F16 := fun_mk (st := s_Works_how) l16 c16 k16
  have F17 := fun_mk (st := s_Lreel) l17 c17 k17
  have F18 := fun_mk (st := s_Ldraw) l18 c18 k18
  have F19 := fun_mk (st := s_Lrow) l19 c19 k19
  have F20 := fun_mk (st := s_Lhand) l20 c20 k20
  have F21 := fun_mk (st := s_Lboxes) l21 c21 k21
  have F22 := fun_mk (st := s_Lsorted) l22 c22 k22
  have F23 := fun_mk (st := s_Lright) l23 c23 k23
  have F24 := fun_mk (st := s_law) l24 c24 k24
  refine ⟨PySem.W.fnOf "law" "law" (defArgs s_law) (defBody s_law) (defScope s_law) .none kV24 dc24 pm24 an24 cd24 ct24, fun s v => .of_eq rfl, fun base _ _ => ?_⟩
  have A0 : FnAt l.prog w K mg base 1 "is_whole" ["value"] (spWh K) := ⟨f0, _, ok_is_whole F0 Bt, PySem.W.mg_of X G a0, k0, F0.binds (ps := ["value"]) bi_is_whole⟩
  have A1 : FnAt l.prog w K mg base 2 "is_below" ["value", "count"] (spBelow K) := ⟨f1, _, ok_is_below F1 A0, PySem.W.mg_of X G a1, k1, F1.binds (ps := ["value", "count"]) bi_is_below⟩
  have A2 : MakeAt l.prog w K mg base 1 C_Hand "Hand" ["self", "rows"] [] (spHInit C_Hand K) := ⟨f2, _, [], ok_hinit F2 Z_Hand G_BOXES, ⟨zmk_Hand, a2, n2, zkp_Hand⟩, PySem.W.mg_of X G za_Hand, F2.binds (ps := ["self", "rows"]) bi_Hand_init, .nil⟩
  have A3 : FnAt l.prog w K mg base 1 "cell_of" ["row"] (spCellOf K) := ⟨f3, _, ok_cellOf F3 , PySem.W.mg_of X G a3, k3, F3.binds (ps := ["row"]) bi_cell_of⟩
  have R4_0 : MethAt l.prog w K mg base 1 C_Hand "value_of" ["self", "part"] (spVal C_Hand 0 K) := ⟨f4, _, ok_val0 F4, ⟨a4, n4, k4⟩, F4.binds (ps := ["self", "part"]) bi_Hand_value_of⟩
  have R4_1 : MethAt l.prog w K mg base 2 C_Hand "value_of" ["self", "part"] (spVal C_Hand 1 K) := ⟨f4, _, ok_valS (n := 0) F4 R4_0 Z_Hand G_BOXES G_ROUND, ⟨a4, n4, k4⟩, F4.binds (ps := ["self", "part"]) bi_Hand_value_of⟩
  have A4 : MethAt l.prog w K mg base 3 C_Hand "value_of" ["self", "part"] (spVal C_Hand 2 K) := ⟨f4, _, ok_valS (n := 1) F4 R4_1 Z_Hand G_BOXES G_ROUND, ⟨a4, n4, k4⟩, F4.binds (ps := ["self", "part"]) bi_Hand_value_of⟩
  have A5 : MethAt l.prog w K mg base 4 C_Hand "holds" ["self", "row"] (spHolds C_Hand K) := ⟨f5, _, ok_holds F5 A4 Z_Hand, ⟨a5, n5, k5⟩, F5.binds (ps := ["self", "row"]) bi_Hand_holds⟩
  have A6 : MethAt l.prog w K mg base 1 C_Hand "take" ["self", "box", "number"] (spTake C_Hand K) := ⟨f6, _, ok_take F6 Z_Hand G_BOXES, ⟨a6, n6, k6⟩, F6.binds (ps := ["self", "box", "number"]) bi_Hand_take⟩
  have A7 : MethAt l.prog w K mg base 5 C_Hand "do" ["self", "row"] (spDo C_Hand K) := ⟨f7, _, ok_do F7 A4 A6 A5 Z_Hand, ⟨a7, n7, k7⟩, F7.binds (ps := ["self", "row"]) bi_Hand_do⟩
  have A8 : MethAt l.prog w K mg base 6 C_Hand "lead_on" ["self"] (spLead C_Hand K) := ⟨f8, _, ok_lead F8 A3 A7 Z_Hand G_MOST_UNTOUCHING Bt, ⟨a8, n8, k8⟩, F8.binds (ps := ["self"]) bi_Hand_lead_on⟩
  have A9 : FnAtX l.prog w K mg base 3 "check_numbers" ["cells", "count"] (spCheckNum C_NoNumber K) := ⟨f9, _, ok_checkNum F9 A1 G_ROUND Bt X_NoNumber, PySem.W.mg_of X G a9, k9, F9.binds (ps := ["cells", "count"]) bi_check_numbers⟩
  have A10 : MethAt l.prog w K mg base 4 C_Works "touch_by" ["self", "one"] (spTouchBy C_Works C_Hand K) := ⟨f10, _, ok_touchBy F10 A3 A4 A6 Z_Works Z_Hand, ⟨a10, n10, k10⟩, F10.binds (ps := ["self", "one"]) bi_Works_touch_by⟩
  have A11 : MethAtX l.prog w K mg base 3 C_Works "hand_of" ["self", "hand"] (spHandOf C_Works C_Hand C_NoHand K) := ⟨f11, _, ok_handOf F11 A1 Z_Works Bt X_NoHand, ⟨a11, n11, k11⟩, F11.binds (ps := ["self", "hand"]) bi_Works_hand_of⟩
  have A12 : MethAtX l.prog w K mg base 7 C_Works "turn" ["self", "hand"] (spTurn C_Works C_Hand C_NoHand C_Over K) := ⟨f12, _, ok_turn F12 A11 A10 A8 Z_Works Z_Hand X_Over, ⟨a12, n12, k12⟩, F12.binds (ps := ["self", "hand"]) bi_Works_turn⟩
  have G13 := ok_winit F13 Z_Works Z_Hand A9 A2 A8 Bt
  have A13 : MakeAtX l.prog w K mg base 7 C_Works "Works" ["self", "program", "cells"] [] (spWInit C_Works C_Hand C_NoNumber K) := ⟨f13, _, _, G13, ⟨zmk_Works, a13, n13, zkp_Works⟩, PySem.W.mg_of X G za_Works, bd0_Works_init d13, .nil⟩
  have A13_1 : MakeAtX l.prog w K mg base 7 C_Works "Works" ["self", "program", "cells"] [.non] (spWInit C_Works C_Hand C_NoNumber K) := ⟨f13, _, _, G13, ⟨zmk_Works, a13, n13, zkp_Works⟩, PySem.W.mg_of X G za_Works, bd1_Works_init d13, .cons rfl .nil⟩
  have A13_K : MakeAtK l.prog w K mg base 7 C_Works "Works" ["self", "program", "cells"] "cells" (spWInit C_Works C_Hand C_NoNumber K) := ⟨f13, _, G13, ⟨zmk_Works, a13, n13, zkp_Works⟩, PySem.W.mg_of X G za_Works, bdK_Works_init d13⟩
  have A14 : MethAt l.prog w K mg base 1 C_Works "cells" ["self"] (spCells C_Works C_Hand K) := ⟨f14, _, ok_cells F14 Z_Works Bt, ⟨a14, n14, k14⟩, F14.binds (ps := ["self"]) bi_Works_cells⟩
  have A15 : MethAtX l.prog w K mg base 4 C_Works "boxes" ["self", "hand"] (spTold HandS.bs C_Works C_Hand C_NoHand K) := ⟨f15, _, ok_boxes F15 A11 Z_Works Z_Hand Bt, ⟨a15, n15, k15⟩, F15.binds (ps := ["self", "hand"]) bi_Works_boxes⟩
  have A16 : MethAtX l.prog w K mg base 4 C_Works "how" ["self", "hand"] (spHow C_Works C_Hand C_NoHand K) := ⟨f16, _, ok_how F16 A11 Z_Works Z_Hand, ⟨a16, n16, k16⟩, F16.binds (ps := ["self", "hand"]) bi_Works_how⟩
  have A17 : FnAt l.prog w K mg base 1 "_law_reel" ["script"] (spReelP K) := ⟨f17, _, ok_reelP F17 Bt, PySem.W.mg_of X G a17, k17, F17.binds (ps := ["script"]) bi_Lreel⟩
  have A18 : FnAt l.prog w K mg base 1 "_law_draw" ["reel", "many"] (spDrawP K) := ⟨f18, _, ok_drawP F18 Bt, PySem.W.mg_of X G a18, k18, F18.binds (ps := ["reel", "many"]) bi_Ldraw⟩
  have A19 : FnAt l.prog w K mg base 2 "_law_row" ["reel", "at", "size", "many"] (spRow85 K) := ⟨f19, _, ok_row85 F19 A18, PySem.W.mg_of X G a19, k19, F19.binds (ps := ["reel", "at", "size", "many"]) bi_Lrow⟩
  have A20 : FnAt l.prog w K mg base 3 "_law_hand" ["reel", "many"] (spHand85 K) := ⟨f20, _, ok_hand85 F20 A18 A19 Bt, PySem.W.mg_of X G a20, k20, F20.binds (ps := ["reel", "many"]) bi_Lhand⟩
  have A21 : FnAt l.prog w K mg base 5 "_law_boxes" ["one", "many"] (spBoxes85 C_Works C_Hand K) := ⟨f21, _, ok_boxes85 F21 A15.calm Z_Works Bt, PySem.W.mg_of X G a21, k21, F21.binds (ps := ["one", "many"]) bi_Lboxes⟩
  have A22 : FnAt l.prog w K mg base 1 "_law_sorted" ["numbers", "boxes"] (spSorted85 K) := ⟨f22, _, ok_sorted85 F22 Bt, PySem.W.mg_of X G a22, k22, F22.binds (ps := ["numbers", "boxes"]) bi_Lsorted⟩
  have A23 : FnAt l.prog w K mg base 1 "_law_right" ["told", "before", "after", "k"] (spRight85 K) := ⟨f23, _, ok_right85 F23 Bt, PySem.W.mg_of X G a23, k23, F23.binds (ps := ["told", "before", "after", "k"]) bi_Lright⟩
  exact ok_law F24 A17 A18 A20 A13.calm A14 A16.calm A12.calm A21 A22 A23 Z_Works Bt
theorem walk {l : PySem.W.OpenLaw} {q : Program} {loose : List Str} {XP : (Str → Option Value) → Heap → Prop} {YP : World → Heap → Prop} {d : DefRec} {K : Params → PySem.W.Frag} (hn : l.most = some 63) (hdf : d.params.defaults = [])
    (hY : ∀ (w : World) (h : Heap), YP w h → (K w.params).In h)
    (F : ∀ (w : World) (mg : Str → Option Value) (fa : Addr) (h : Heap), (K w.params).In h → h.Ns mainGlobals mg → mg d.name = some (.ref fa) →
      ∃ fd : FuncData, (∀ (s : Shared) (u : Value), BindsTo s fd ⟨[u], []⟩ [("script", u)]) ∧ ∀ base : Heap, (K w.params).In base → base.Ns mainGlobals mg → FnOk l.prog w (K w.params) mg base CX0 9 fa fd ["script"] (spLaw (K w.params))) :
    PySem.W.WalkO q loose XP YP l.row.toRowW d [] (fun f vs => PySem.call f vs) :=
  L2.walk_of (n := 63) (k := 9) (x := "script") (CX := fun _ => CX0) (sp := fun w => spLaw (K w.params)) hn (by decide) hdf ⟨rfl, by decide, by decide⟩ hY F (fun _ _ a ns hl _ hS => ⟨a, ns, rfl, hS, hl, fun _ => rfl⟩) fun _ _ _ _ _ z => z
end Prf
namespace PySem.W.Fast
def tw5480801083502532511 := ()
def tw4538178322316101040 := ()
def tw14466894397408929697 := ()
def tw13916907414984216319 := ()
def tw2138921341450331301 := ()
def tw10434639430738289862 := ()
def tw1994437728958261771 := ()
def tw16030069514861577230 := ()
def tw2202979705667222927 := ()
def tw17144473113048598504 := ()
def tw17189729371370466542 := ()
def tw18439807922666506943 := ()
def tw14452461088953443312 := ()
def tw2897673298669809422 := ()
def tw8675972442318730993 := ()
def tw10168769574535805837 := ()
def tw13125350358173179796 := ()
def tw7058884090322085860 := ()
def tw3374125613995327755 := ()
def tw3624002258220951031 := ()
def tw17965712320694696317 := ()
def tw4094814612883120704 := ()
def tw12362127161607602361 := ()
def tw6265976189518960397 := ()
def tw8473208250928028128 := ()
def tw10482316327238882919 := ()
def tw7028632329669060272 := ()
def tw17412852174084843403 := ()
def tw10801455862972267769 := ()
def tw5579369524657687589 := ()
def tw18436661810170140305 := ()
def tw7886266107219524606 := ()
def tw4741252521794593081 := ()
def tw10136946434057949473 := ()
def tw12880120729502865966 := ()
def tw7483195731752917715 := ()
def tw6132866292936821346 := ()
def tw2715914736871892137 := ()
def tw7051368866922515519 := ()
def tw6129901411010230552 := ()
def tw17878134937480395554 := ()
def tw17638390517357652863 := ()
def tw8204113274945181057 := ()
def tw1551307080063245758 := ()
def tw2164339300403981114 := ()
def tw14175967308683508857 := ()
def tw16496238056803874693 := ()
def tw9370387404019621170 := ()
def tw11425854600097824431 := ()
def tw9430011445138296961 := ()
def tw15278885114170351038 := ()
def tw6758812057538363884 := ()
def tw1735077376409259226 := ()
def tw15075471208161408636 := ()
def tw17806184521281221626 := ()
def tw1863708559861469376 := ()
def tw4861797005964298372 := ()
def tw4104214212728048058 := ()
def tw8840786079657276485 := ()
def tw8378688013397373272 := ()
def tw15794131672891430838 := ()
def tw8605611038087127577 := ()
def tw6663766131893828487 := ()
def tw10174338229505208504 := ()
def tw9378103703987232688 := ()
def tw7856049280541425548 := ()
def tw3629930470863374393 := ()
def tw18439938152708616027 := ()
def tw4285351090743032392 := ()
def tw2274726982422217533 := ()
def tw7525428508542888744 := ()
def tw16279622162690340459 := ()
def tw11408427461285101809 := ()
def tw6684147404516186076 := ()
def tw13408554012658533473 := ()
def tw2823826684924181944 := ()
def tw3452954020584170705 := ()
def tw10042592255607548393 := ()
def tw14241756426849618336 := ()
def tw12075098719362287351 := ()
def tw1356351614644272473 := ()
def tw1953043401597497448 := ()
def tw11045991867891715698 := ()
def tw13891434009578846772 := ()
def tw18121597251297668535 := ()
def tw18278851246182444761 := ()
def tw17418454804687184774 := ()
def tw9901547780371095120 := ()
def tw18056933019663499643 := ()
def tw4528258801486939604 := ()
def tw6658476251372600938 := ()
def tw9614083013875523388 := ()
def tw12236106793749198279 := ()
def tw2369062376049671520 := ()
def tw11487458378600975744 := ()
def tw1102121247252197531 := ()
def tw14390467214382287876 := ()
def tw7854793785947137275 := ()
def tw8288977852060919051 := ()
def tw17806700598093103453 := ()
def tw8727431570541743154 := ()
def tw2657458117540411941 := ()
def tw2806835721028543853 := ()
def tw13864166891398625110 := ()
def tw15936896198948777351 := ()
def tw7469969081734499431 := ()
def tw9548066983620951020 := ()
def tw14788146960491806878 := ()
def tw17792094039619609162 := ()
def tw3517232425311054824 := ()
def tw7845696286937680486 := ()
def tw6792901688776957969 := ()
def tw11054851721920780378 := ()
def tw8612567522977443847 := ()
def tw17698506806876751503 := ()
def tw5013125834877985058 := ()
def tw13494095152483915708 := ()
def tw16747732792618666385 := ()
def tw1200225076064072347 := ()
def tw9336047593587902939 := ()
def tw4612590593745650191 := ()
def tw10559574469521908090 := ()
def tw7828936468468982992 := ()
def tw4182093227545537603 := ()
def tw9036774949631838521 := ()
def tw5042940332411005651 := ()
def tw8880108789132036307 := ()
def tw16252033008577058066 := ()
def tw18064834272966636354 := ()
def tw8616761634661482276 := ()
def tw2660963150063650127 := ()
def tw1696114494872169861 := ()
def tw17896892896747061989 := ()
def tw240670934023526843 := ()
def tw13035387736743599343 := ()
def tw3281583176163538102 := ()
def tw18379020624903156559 := ()
def tw791258951044267283 := ()
def tw7268626105667341543 := ()
def tw16934166463395940575 := ()
def tw16599765769952353529 := ()
def tw13210550220244251105 := ()
def tw7059444813199046184 := ()
def tw9893347545178004332 := ()
def tw8183602373432101072 := ()
def tw14932623280499953689 := ()
def tw10752744147698372745 := ()
def tw7860787567375191750 := ()
def tw13876521537897671421 := ()
def tw12056056650601615417 := ()
def tw13605168824668621530 := ()
def tw13509759500371044218 := ()
def tw10190040133756525923 := ()
def tw2152635019928335169 := ()
def tw5109026004294101442 := ()
def tw1378484894320717986 := ()
def tw10490375263705899096 := ()
def tw5948789181580581576 := ()
def tw9396921021421279423 := ()
def tw13865482413927583909 := ()
def tw16527766405900875681 := ()
def tw1979742097995369924 := ()
def tw3566554840899337844 := ()
def tw18238862627351117910 := ()
def tw10899884873454497941 := ()
def tw17674231586869620864 := ()
def tw939016124118836347 := ()
def tw4136474655274638781 := ()
def tw12415838889202125484 := ()
def tw17192663647180599508 := ()
def tw2051404950550062674 := ()
def tw10004727026288205546 := ()
def tw239316417971720403 := ()
def tw1020836234158121452 := ()
def tw2595466292210786384 := ()
def tw4374093502526645924 := ()
def tw9757020743196011192 := ()
def tw5257875812674531311 := ()
def tw13915963614324724451 := ()
def tw77206110735301218 := ()
def tw14237055611431690289 := ()
def tw10137483722019965162 := ()
def tw8176757369071823436 := ()
def tw12487390716452553466 := ()
def tw15472354276039112691 := ()
def tw6224620923608671423 := ()
def tw6832570171174967358 := ()
def tw5610767675113092024 := ()
def tw6408012164552637056 := ()
def tw13915422818037999181 := ()
def tw4132586356496327448 := ()
def tw4433123747563343591 := ()
def tw7368871974450544177 := ()
def tw470164517467617092 := ()
def tw13079063586198829688 := ()
def tw14255246994049414298 := ()
def tw14242960719815002431 := ()
def tw16747211447192548565 := ()
def tw11348075951553853755 := ()
def tw4496450120332988661 := ()
def tw10630522867838105716 := ()
def tw10545781182837656667 := ()
def tw11373240466104404563 := ()
def tw17397638659911353741 := ()
def tw14370417364425909275 := ()
def tw6996512131852552933 := ()
def tw4439454964774907276 := ()
def tw1056174797866190111 := ()
def tw16852528266554360691 := ()
def tw13116271133683580159 := ()
def tw12474884643955173766 := ()
def tw3188590479497451174 := ()
def tw12237609730150081418 := ()
def tw478921932123704657 := ()
def tw9375610696715605439 := ()
def tw15090590205929039939 := ()
def tw7449099978132917496 := ()
def tw16542420638979687894 := ()
def tw10628748828031484565 := ()
def tw6788795953206036596 := ()
def tw6822093503025780161 := ()
def tw14997325056961319205 := ()
def tw893917939680180594 := ()
def tw11105769494968193494 := ()
def tw9315704479235372283 := ()
def tw15908283430687423500 := ()
def tw17880313372048946815 := ()
def tw17085121073999274919 := ()
def tw12317563215246587436 := ()
def tw9612736305389340319 := ()
def tw2046163178896408154 := ()
def tw11551375623632860382 := ()
def tw15988589546736270580 := ()
def tw12453727004530095579 := ()
def tw17595074697516478789 := ()
def tw15309294696963910181 := ()
def tw8942193614041554886 := ()
def tw13657611925675153297 := ()
def tw2709241923581636875 := ()
def tw10686932003144509771 := ()
def tw12830858032382563982 := ()
def tw6020870466261669049 := ()
def tw1713574684884456189 := ()
def tw6701184532662631192 := ()
def tw7816285428496481974 := ()
def tw17099279165656404831 := ()
def tw9254199449704750490 := ()
def tw16477842845384946087 := ()
def tw8872625491683996308 := ()
def tw12025598674438890135 := ()
def tw5070648599903858995 := ()
def tw718870493222585221 := ()
def tw3845122085653067847 := ()
def tw18033809946301102181 := ()
def tw7709984378769615081 := ()
def tw11054855583523702948 := ()
def tw15069196680563720357 := ()
def tw5681802502769549666 := ()
def tw5563229085546309151 := ()
def tw11759906542953578011 := ()
def tw10682321149871339073 := ()
def tw8213545930108074164 := ()
def tw14255974509873327325 := ()
def tw1289362511475340093 := ()
def tw16224405391676670187 := ()
def tw8763300840608456548 := ()
def tw4339645439965210873 := ()
def tw17769012721777113226 := ()
def tw11013443215680682671 := ()
def tw2765776900329602885 := ()
def tw8101762324623636222 := ()
def tw962170771263794313 := ()
def tw4841956027808318238 := ()
def tw10834465470280007576 := ()
def tw12471841810273655952 := ()
def tw16622674470807871868 := ()
def tw14448791220184365994 := ()
def tw13238452528747779272 := ()
def tw15299206815502627642 := ()
def tw15595148299210630037 := ()
def tw16956267478239714618 := ()
def tw4592439101052204576 := ()
def tw3040375625554630425 := ()
def tw2430013423891307652 := ()
def tw8099183196037406899 := ()
def tw11684695784192152353 := ()
def tw1530464304103062801 := ()
def tw10201540527401973772 := ()
def tw6572741435704542005 := ()
def tw1711158400090995796 := ()
def tw14519684964525604976 := ()
def tw13011719337601484940 := ()
def tw14843779784074545249 := ()
def tw2336131628048367421 := ()
def tw10915444630002156230 := ()
def tw14601590990810073113 := ()
def tw7520345736540419123 := ()
def tw2964070116130951200 := ()
def tw4974103479635746400 := ()
def tw2687361785074733794 := ()
def tw14251482830677069840 := ()
def tw13789290710524283585 := ()
def tw15601365490937612616 := ()
def tw1352414733560234261 := ()
def tw6418171222930700407 := ()
def tw13215732550961684154 := ()
def tw6929107388790877078 := ()
def tw1697440540384246750 := ()
def tw1523448100245553362 := ()
def tw3644896540363818448 := ()
def tw10738914733498032175 := ()
def tw10211191869249014158 := ()
def tw6846468883354111995 := ()
def tw4713636920782412425 := ()
def tw15554981378067902384 := ()
def tw15952875065455581568 := ()
def tw281306341230590052 := ()
def tw40046809125600931 := ()
def tw1216466765374539929 := ()
def tw152155394472237604 := ()
def tw602440046284105342 := ()
def tw3863605220042781211 := ()
def tw17708310777101770664 := ()
def tw6667825448715345118 := ()
def tw10485763986063637250 := ()
def tw3658081107846261742 := ()
def tw9385344401390619874 := ()
def tw4071356059497969497 := ()
def tw4268347235995028424 := ()
def tw5864699275174688876 := ()
def tw5249484886950898943 := ()
def tw13847972286093493048 := ()
def tw4431807540887050367 := ()
def tw8152182634544742319 := ()
def tw3846687393226581692 := ()
def tw17440315218130649270 := ()
def tw12768959162536961052 := ()
def tw14583217309864308600 := ()
def tw1646423404564027904 := ()
def tw10535732081763143591 := ()
def tw8734267151683450042 := ()
def tw5905284345018888305 := ()
def tw2005796144014904520 := ()
def tw8357394279056715034 := ()
def tw12852044510030767965 := ()
def tw6868204948848907009 := ()
def tw2781910477447614975 := ()
def tw11296560199575021402 := ()
def tw6071532198908433101 := ()
def tw15696649311872311034 := ()
def tw9761001927369575216 := ()
def tw10913182424829655474 := ()
def tw11413261373268604721 := ()
def tw7685921423159790467 := ()
def tw14416776553175518937 := ()
def tw16354738530983824593 := ()
def tw4792389737072329385 := ()
def tw13789407904011083449 := ()
end PySem.W.Fast
open PySem PySem.W PyProof.Rows
set_option maxRecDepth 100000 in
set_option maxHeartbeats 0 in
theorem PySem.Challenge.cw_fewnotes_k85_whole_swapped_numbers_stay_holds : PySem.Challenge.rw_fewnotes_k85_whole_swapped_numbers_stay.Holds := by
  w_on; o_law; k_head; (case hw => w_witness2)
  k_fill
  refine Prf.walk (l := PySem.Challenge.rw_fewnotes_k85_whole_swapped_numbers_stay) rfl rfl (fun w h Y => PySem.W.kIn_of Y) ?F
  case F =>
    intro w mg fa h KX G hmg
    replace hmg : mg (Str.ofString "law") = some (.ref fa) := hmg
    refine' Prf.all_mk KX G hmg ?a0 ?l0 ?c0 ?k0 ?a1 ?l1 ?c1 ?k1 ?a2 ?l2 ?c2 ?k2 ?n2 ?a3 ?l3 ?c3 ?k3 ?a4 ?l4 ?c4 ?k4 ?n4 ?a5 ?l5 ?c5 ?k5 ?n5 ?a6 ?l6 ?c6 ?k6 ?n6 ?a7 ?l7 ?c7 ?k7 ?n7 ?a8 ?l8 ?c8 ?k8 ?n8 ?a9 ?l9 ?c9 ?k9 ?a10 ?l10 ?c10 ?k10 ?n10 ?a11 ?l11 ?c11 ?k11 ?n11 ?a12 ?l12 ?c12 ?k12 ?n12 ?a13 ?l13 ?c13 ?k13 ?n13 ?d13 ?a14 ?l14 ?c14 ?k14 ?n14 ?a15 ?l15 ?c15 ?k15 ?n15 ?a16 ?l16 ?c16 ?k16 ?n16 ?a17 ?l17 ?c17 ?k17 ?a18 ?l18 ?c18 ?k18 ?a19 ?l19 ?c19 ?k19 ?a20 ?l20 ?c20 ?k20 ?a21 ?l21 ?c21 ?k21 ?a22 ?l22 ?c22 ?k22 ?a23 ?l23 ?c23 ?k23 ?a24 ?l24 ?c24 ?k24 ?za_Hand ?zpg_Hand ?zhd_Hand ?zpo_Hand ?zsa_Hand ?zmk_Hand ?zkp_Hand ?zn_Hand_rows ?zn_Hand_at ?zn_Hand_in_boxes ?zn_Hand_sayings ?zn_Hand_state ?za_Works ?zpg_Works ?zhd_Works ?zpo_Works ?zsa_Works ?zmk_Works ?zkp_Works ?zn_Works_program ?zn_Works_numbers ?zn_Works_hands ?zn_Works_turns ?xa_NoNumber ?xcl_NoNumber ?xty_NoNumber ?xbs_NoNumber ?xa_NoHand ?xcl_NoHand ?xty_NoHand ?xbs_NoHand ?xa_Over ?xcl_Over ?xty_Over ?xbs_Over ?xa_NoteError ?xcl_NoteError ?xty_NoteError ?xbs_NoteError ?xne_NoHand_NoNumber ?xsb_NoHand_NoNumber ?xne_Over_NoNumber ?xsb_Over_NoNumber ?xne_NoNumber_NoHand ?xsb_NoNumber_NoHand ?xne_Over_NoHand ?xsb_Over_NoHand ?xne_NoNumber_Over ?xsb_NoNumber_Over ?xne_NoHand_Over ?xsb_NoHand_Over ?xne_NoNumber_NoteError ?xsb_NoNumber_NoteError ?xne_NoHand_NoteError ?xsb_NoHand_NoteError ?xne_Over_NoteError ?xsb_Over_NoteError ?xcg ?xct ?xga_NoNumber ?xgk_NoNumber ?xmB_NoNumber ?xca_NoNumber ?xmo_NoNumber ?xex_NoNumber ?xve_NoNumber ?xga_NoHand ?xgk_NoHand ?xmB_NoHand ?xca_NoHand ?xmo_NoHand ?xex_NoHand ?xve_NoHand ?xga_Over ?xgk_Over ?xmB_Over ?xca_Over ?xmo_Over ?xex_Over ?xve_Over ?g_BOXES ?g_ROUND ?g_MOST_UNTOUCHING ?z_all ?z_bool ?z_int ?z_isinstance ?z_len ?z_list ?z_max ?z_min ?z_range ?z_sorted ?z_str ?z_sum ?z_tuple ?z_zip
    (case za_Hand => k_is)
    (case zpg_Hand => k_is)
    (case zhd_Hand => k_is)
    (case zpo_Hand => k_is)
    (case zsa_Hand => k_is)
    (case zmk_Hand => k_is)
    (case zkp_Hand => k_is)
    (case zn_Hand_rows => k_is)
    (case zn_Hand_at => k_is)
    (case zn_Hand_in_boxes => k_is)
    (case zn_Hand_sayings => k_is)
    (case zn_Hand_state => k_is)
    (case za_Works => k_is)
    (case zpg_Works => k_is)
    (case zhd_Works => k_is)
    (case zpo_Works => k_is)
    (case zsa_Works => k_is)
    (case zmk_Works => k_is)
    (case zkp_Works => k_is)
    (case zn_Works_program => k_is)
    (case zn_Works_numbers => k_is)
    (case zn_Works_hands => k_is)
    (case zn_Works_turns => k_is)
    (case xa_NoNumber => k_is)
    (case xcl_NoNumber => rfl)
    (case xty_NoNumber => k_is)
    (case xbs_NoNumber => k_is)
    (case xa_NoHand => k_is)
    (case xcl_NoHand => rfl)
    (case xty_NoHand => k_is)
    (case xbs_NoHand => k_is)
    (case xa_Over => k_is)
    (case xcl_Over => rfl)
    (case xty_Over => k_is)
    (case xbs_Over => k_is)
    (case xa_NoteError => k_is)
    (case xcl_NoteError => rfl)
    (case xty_NoteError => k_is)
    (case xbs_NoteError => k_is)
    (case xne_NoHand_NoNumber => rfl)
    (case xsb_NoHand_NoNumber => k_is)
    (case xne_Over_NoNumber => rfl)
    (case xsb_Over_NoNumber => k_is)
    (case xne_NoNumber_NoHand => rfl)
    (case xsb_NoNumber_NoHand => k_is)
    (case xne_Over_NoHand => rfl)
    (case xsb_Over_NoHand => k_is)
    (case xne_NoNumber_Over => rfl)
    (case xsb_NoNumber_Over => k_is)
    (case xne_NoHand_Over => rfl)
    (case xsb_NoHand_Over => k_is)
    (case xne_NoNumber_NoteError => rfl)
    (case xsb_NoNumber_NoteError => k_is)
    (case xne_NoHand_NoteError => rfl)
    (case xsb_NoHand_NoteError => k_is)
    (case xne_Over_NoteError => rfl)
    (case xsb_Over_NoteError => k_is)
    (case xcg => k_is)
    (case xct => k_is)
    (case xga_NoNumber => k_is)
    (case xgk_NoNumber => k_is)
    (case xmB_NoNumber => k_is)
    (case xca_NoNumber => k_is)
    (case xmo_NoNumber => k_is)
    (case xex_NoNumber => k_exc)
    (case xve_NoNumber => k_is)
    (case xga_NoHand => k_is)
    (case xgk_NoHand => k_is)
    (case xmB_NoHand => k_is)
    (case xca_NoHand => k_is)
    (case xmo_NoHand => k_is)
    (case xex_NoHand => k_exc)
    (case xve_NoHand => k_is)
    (case xga_Over => k_is)
    (case xgk_Over => k_is)
    (case xmB_Over => k_is)
    (case xca_Over => k_is)
    (case xmo_Over => k_is)
    (case xex_Over => k_exc)
    (case xve_Over => k_is)
    (case g_BOXES => k_is)
    (case g_ROUND => k_is)
    (case g_MOST_UNTOUCHING => k_is)
    (case a0 => k_is)
    (case l0 => k_is)
    (case c0 => k_is)
    (case k0 => k_is)
    (case a1 => k_is)
    (case l1 => k_is)
    (case c1 => k_is)
    (case k1 => k_is)
    (case a2 => k_is)
    (case l2 => k_is)
    (case c2 => k_is)
    (case k2 => k_is)
    (case n2 => k_is)
    (case a3 => k_is)
    (case l3 => k_is)
    (case c3 => k_is)
    (case k3 => k_is)
    (case a4 => k_is)
    (case l4 => k_is)
    (case c4 => k_is)
    (case k4 => k_is)
    (case n4 => k_is)
    (case a5 => k_is)
    (case l5 => k_is)
    (case c5 => k_is)
    (case k5 => k_is)
    (case n5 => k_is)
    (case a6 => k_is)
    (case l6 => k_is)
    (case c6 => k_is)
    (case k6 => k_is)
    (case n6 => k_is)
    (case a7 => k_is)
    (case l7 => k_is)
    (case c7 => k_is)
    (case k7 => k_is)
    (case n7 => k_is)
    (case a8 => k_is)
    (case l8 => k_is)
    (case c8 => k_is)
    (case k8 => k_is)
    (case n8 => k_is)
    (case a9 => k_is)
    (case l9 => k_is)
    (case c9 => k_is)
    (case k9 => k_is)
    (case a10 => k_is)
    (case l10 => k_is)
    (case c10 => k_is)
    (case k10 => k_is)
    (case n10 => k_is)
    (case a11 => k_is)
    (case l11 => k_is)
    (case c11 => k_is)
    (case k11 => k_is)
    (case n11 => k_is)
    (case a12 => k_is)
    (case l12 => k_is)
    (case c12 => k_is)
    (case k12 => k_is)
    (case n12 => k_is)
    (case a13 => k_is)
    (case l13 => k_is)
    (case c13 => k_is)
    (case k13 => k_is)
    (case n13 => k_is)
    (case d13 => k_is)
    (case a14 => k_is)
    (case l14 => k_is)
    (case c14 => k_is)
    (case k14 => k_is)
    (case n14 => k_is)
    (case a15 => k_is)
    (case l15 => k_is)
    (case c15 => k_is)
    (case k15 => k_is)
    (case n15 => k_is)
    (case a16 => k_is)
    (case l16 => k_is)
    (case c16 => k_is)
    (case k16 => k_is)
    (case n16 => k_is)
    (case a17 => k_is)
    (case l17 => k_is)
    (case c17 => k_is)
    (case k17 => k_is)
    (case a18 => k_is)
    (case l18 => k_is)
    (case c18 => k_is)
    (case k18 => k_is)
    (case a19 => k_is)
    (case l19 => k_is)
    (case c19 => k_is)
    (case k19 => k_is)
    (case a20 => k_is)
    (case l20 => k_is)
    (case c20 => k_is)
    (case k20 => k_is)
    (case a21 => k_is)
    (case l21 => k_is)
    (case c21 => k_is)
    (case k21 => k_is)
    (case a22 => k_is)
    (case l22 => k_is)
    (case c22 => k_is)
    (case k22 => k_is)
    (case a23 => k_is)
    (case l23 => k_is)
    (case c23 => k_is)
    (case k23 => k_is)
    (case a24 => k_is)
    (case l24 => k_is)
    (case c24 => k_is)
    (case k24 => k_is)
    (case z_all => k_is)
    (case z_bool => k_is)
    (case z_int => k_is)
    (case z_isinstance => k_is)
    (case z_len => k_is)
    (case z_list => k_is)
    (case z_max => k_is)
    (case z_min => k_is)
    (case z_range => k_is)
    (case z_sorted => k_is)
    (case z_str => k_is)
    (case z_sum => k_is)
    (case z_tuple => k_is)
    (case z_zip => k_is)
#print axioms PySem.Challenge.cw_fewnotes_k85_whole_swapped_numbers_stay_holds
